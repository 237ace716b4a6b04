import PyProof.Rows.All
import Wide.All
import OpenK.AllK
import Wide.FinOn
import Lean
import PyProof.EqAt
import PyProof.EqKinds
import PyProof.TupleCall
import PyProof.NeData
import PyProof.P3Eq
import PyProof.ConsumeWalk
import PyProof.ZipIter
import PyProof.Draws
import PyProof.EnumMake
import PyProof.EnumFor
import PyProof.ListRange
import PyProof.ListMulAny
import KE.KRevIter
import PyProof.Rows.SortShell
import PyProof.StrCalls2
import PyProof.StrCalls3
import PyProof.FString
import PyProof.Rows.FStr
import PyProof.CallType
import PyProof.EnumStmt
import PyProof.Rows.CallKwBuiltin
import PyProof.ListStr
import KE.KDictOf
import PyProof.ListNew
import PyProof.StrLaws
import PyProof.StrLawsIn
import PySem.Challenge.RW_fewopen_k22_tables_made
set_option compiler.extract_closed false
set_option bootstrap.genMatcherCode false
set_option genSizeOf false
set_option Elab.async false
set_option linter.all false
set_option maxRecDepth 100000
namespace L2
open PySem PySem.Spec PyProof.Rows
noncomputable abbrev Key := Sum Int Str
noncomputable def keyIs : Key → Value → Bool
 | .inl k, v => Value.isInt k v
 | .inr x, v => Value.isStrOf x v
noncomputable def keyH (w : World) : Key → Int
 | .inl k => hashInt k
 | .inr x => hashStr w x
theorem keyIs_shape : ∀ {k : Key} {v : Value}, keyIs k v = true → (∃ i t, k = Sum.inl i ∧ v = Value.int i t) ∨ (∃ x t, k = Sum.inr x ∧ v = Value.str x t)
 | .inl i, v, h => by
  obtain ⟨t, e⟩ := Value.isInt_shape (k := i) (v := v) h
  exact .inl ⟨i, t, rfl, e⟩
 | .inr x, v, h => by
  obtain ⟨t, e⟩ := Value.isStrOf_shape (x := x) (v := v) h
  exact .inr ⟨x, t, rfl, e⟩
theorem keyIs_int (i : Int) (t : Tok) : keyIs (.inl i) (.int i t) = true := by simp [keyIs, Value.isInt]
theorem keyIs_str (x : Str) (t : Tok) : keyIs (.inr x) (.str x t) = true := by simp [keyIs, Value.isStrOf]
theorem key_ll (a b : Int) : decide ((Sum.inl a : Key) = Sum.inl b) = (a == b) := by
 by_cases e : a = b
 ·subst e; simp
 ·have h : ¬ (Sum.inl a : Key) = Sum.inl b := fun q => e (Sum.inl.inj q)
  rw [decide_eq_false h]
  exact (beq_eq_false_iff_ne.mpr e).symm
theorem key_rr (a b : Str) : decide ((Sum.inr a : Key) = Sum.inr b) = decide (a = b) := by
 by_cases e : a = b
 ·subst e; simp
 ·have h : ¬ (Sum.inr a : Key) = Sum.inr b := fun q => e (Sum.inr.inj q)
  rw [decide_eq_false h, decide_eq_false e]
theorem key_lr (a : Int) (b : Str) : decide ((Sum.inl a : Key) = Sum.inr b) = false := decide_eq_false (fun q => nomatch q)
theorem key_rl (a : Str) (b : Int) : decide ((Sum.inr a : Key) = Sum.inl b) = false := decide_eq_false (fun q => nomatch q)
noncomputable def mixKind (prog : Program) (w : World) : PySem.KeyKind prog w Key where
 is := keyIs
 hash := keyH w
 inj := fun v a b ha hb => by
  rcases keyIs_shape ha with ⟨i, t, rfl, rfl⟩ | ⟨x, t, rfl, rfl⟩
  ·rcases keyIs_shape hb with ⟨j, u, rfl, e⟩ | ⟨y, u, rfl, e⟩
   ·injection e with e1 _; rw [e1]
   ·exact nomatch e
  ·rcases keyIs_shape hb with ⟨j, u, rfl, e⟩ | ⟨y, u, rfl, e⟩
   ·exact nomatch e
   ·injection e with e1 _; rw [e1]
 byValue := fun k v h => by
  rcases keyIs_shape h with ⟨i, t, rfl, rfl⟩ | ⟨x, t, rfl, rfl⟩ <;> rfl
 pyHash := fun hv h => by
  rcases keyIs_shape hv with ⟨i, t, rfl, rfl⟩ | ⟨x, t, rfl, rfl⟩
  ·exact wpAny_pyHash_int h
  ·exact wpAny_pyHash_str h
 eqBool := fun hu hv h => by
  rcases keyIs_shape hu with ⟨i, t, rfl, rfl⟩ | ⟨x, t, rfl, rfl⟩
  ·rcases keyIs_shape hv with ⟨j, u, rfl, rfl⟩ | ⟨y, u, rfl, rfl⟩
   ·rw [key_ll] at h; exact wpAny_eqBool_int h
   ·rw [key_lr] at h; exact SeqAt.EqAt.int_str i t y u _ _ _ _ h
  ·rcases keyIs_shape hv with ⟨j, u, rfl, rfl⟩ | ⟨y, u, rfl, rfl⟩
   ·rw [key_rl] at h; exact SeqAt.EqAt.str_int x t j u _ _ _ _ h
   ·rw [key_rr] at h; exact wpAny_eqBool_str h
 «strs» := fun k x t v h => by
  rcases keyIs_shape h with ⟨i, u, rfl, e⟩ | ⟨y, u, rfl, e⟩
  ·exact nomatch e
  ·injection e with e1 _
   subst e1
   cases v <;> rfl
theorem mixKind_int (prog : Program) (w : World) (i : Int) (t : Tok) : (mixKind prog w).is (.inl i) (.int i t) = true := keyIs_int i t
theorem mixKind_str (prog : Program) (w : World) (x : Str) (t : Tok) : (mixKind prog w).is (.inr x) (.str x t) = true := keyIs_str x t
end L2
namespace L2
open PySem PySem.Spec PyProof.Rows
inductive V where
 | non | bl (b : Bool) | int (i : Int) | str (x : Str) | byt (b : Array UInt8) | flt (b : UInt64) | ref (a : Addr) | ty (n : String)
 deriving DecidableEq
noncomputable def RelV : V → Value → Prop
 | .non, u => u = Value.none
 | .bl b, u => u = Value.bool b
 | .int i, u => ∃ t, u = Value.int i t
 | .str x, u => ∃ t, u = Value.str x t
 | .byt b, u => ∃ t, u = Value.bytes b t
 | .flt b, u => ∃ t, u = Value.float b t
 | .ref a, u => u = Value.ref a
 | .ty n, u => u = Value.type n
noncomputable abbrev Vals : List V → List Value → Prop := Paired RelV
theorem Vals.length {xs : List V} {us : List Value} (r : Vals xs us) : xs.length = us.length := Paired.length r
theorem Vals.get : ∀ {xs : List V} {us : List Value} {i : Nat} {x : V}, Vals xs us → xs[i]? = some x → ∃ u, us[i]? = some u ∧ RelV x u
 | _, _, _, _, .nil, e => by simp at e
 | _, _, 0, _, .cons r _, e => by simp at e; subst e; exact ⟨_, rfl, r⟩
 | _, _, i + 1, x, .cons _ t, e => by
  obtain ⟨u, h1, h2⟩ := Vals.get (i := i) (x := x) t (by simpa using e)
  exact ⟨u, by simpa using h1, h2⟩
theorem Vals.set {x : V} {u : Value} (r : RelV x u) : ∀ {xs : List V} {us : List Value} (i : Nat), Vals xs us → Vals (xs.set i x) (us.set i u)
 | _, _, _, .nil => .nil
 | _, _, 0, .cons _ t => .cons r t
 | _, _, i + 1, .cons q t => .cons q (Vals.set r i t)
theorem Vals.append : ∀ {xs ys : List V} {us ws : List Value}, Vals xs us → Vals ys ws → Vals (xs ++ ys) (us ++ ws)
 | _, _, _, _, .nil, s => s
 | _, _, _, _, .cons r t, s => .cons r (Vals.append t s)
theorem Vals.drop : ∀ {xs : List V} {us : List Value} (n : Nat), Vals xs us → Vals (xs.drop n) (us.drop n)
 | _, _, 0, r => r
 | _, _, _ + 1, .nil => .nil
 | _, _, n + 1, .cons _ t => Vals.drop n t
noncomputable def RelO : Option V → Option Value → Prop
 | some v, some u => RelV v u
 | none, none => True
 | _, _ => False
noncomputable def KV {κ : Type} : List (κ × V) → List (κ × Value) → Prop := Paired fun (p : κ × V) (q : κ × Value) => p.1 = q.1 ∧ RelV p.2 q.2
noncomputable def kV : Key → V
 | .inl i => .int i
 | .inr x => .str x
inductive HO where
 | lst (xs : List V)
 | tup (xs : List V)
 | dK (kvs : List (Key × V)) | dT (kvs : List (List Key × V))
 | set (S : Int → Bool) (n : Nat)
 | ins (C dx : Addr) (fs : List (Str × V))
 | own (x : Addr)
 | xd (fs : List (Str × V))
 | met (f x : Addr)
 | rng (lo hi : Int)
 | frz (o : Obj) (u : HO)
 | tbl (ps : Array Value)
 | ext (φ : Heap → Prop)
noncomputable abbrev Hp := Addr → Option HO
noncomputable def upd (H : Hp) (a : Addr) (o : HO) : Hp := fun b => if b = a then some o else H b
theorem upd_same {H : Hp} {a : Addr} {o : HO} : upd H a o a = some o := by unfold upd; rw [if_pos rfl]
theorem upd_ne {H : Hp} {a b : Addr} {o : HO} (h : b ≠ a) : upd H a o b = H b := by unfold upd; rw [if_neg h]
theorem upd_upd {H : Hp} {a : Addr} {o u : HO} : upd (upd H a o) a u = upd H a u := by
 funext b; unfold upd; split <;> rfl
theorem ne_of {H : Hp} {a b : Addr} {o u : HO} (h : H a = some o) (h' : H b = some u) (d : o ≠ u) : a ≠ b := by
 intro e; subst e; rw [h] at h'; exact d (Option.some.inj h')
theorem ne_of_none {H : Hp} {a b : Addr} {o : HO} (h : H a = some o) (h' : H b = none) : a ≠ b := by
 intro e; subst e; rw [h] at h'; cases h'
section
variable (P : Program) (w : World)
noncomputable def ObjOk (H : Hp) (h : Heap) (a : Addr) : HO → Prop
 | .lst xs => xs.length ≤ sizeLine ∧ ∃ (its : List Value) (n : Nat), Vals xs its ∧ h.get? a = some { cls := .type "list", data := .seq its.toArray n }
 | .tup xs => xs.length ≤ sizeLine ∧ ∃ its : List Value, Vals xs its ∧ IsTup h a its.toArray
 | .dK kvs => kvs.length ≤ sizeLine ∧ (a == sysModules) = false ∧ ∃ vs, KV kvs vs ∧ h.DictOf (mixKind P w) a vs
 | .dT kvs => kvs.length ≤ sizeLine ∧ (a == sysModules) = false ∧ ∃ xs : List (List Key × Addr × Value),
   Paired (fun (p : List Key × V) (q : List Key × Addr × Value) => p.1 = q.1 ∧ H q.2.1 = some (.tup (p.1.map kV)) ∧ RelV p.2 q.2.2) kvs xs ∧
   ∃ o es ep, h.get? a = some o ∧ o.ExactDict ∧ o.data = .dict es ep ∧ es.toList = xs.map (entryOfKey (tupleKind (mixKind P w))) ∧ (xs.map (·.1)).Nodup
 | .set S n => h.SetOf (intKind P w) a S n
 | .ins C dx fs => H dx = some (.own a) ∧ fs.length ≤ 1000 ∧ dx ≠ a ∧ h.get? a = some (PySem.W.instObj C dx) ∧
   ∃ mA, h.Ns1 dx mA ∧ (∀ f, RelO (fs.lookup f) (mA f)) ∧ PySem.Within mA (fs.map (·.1))
 | .own _ => ∃ o, h.get? a = some o
 | .xd fs => ∃ mA, h.Ns1 a mA ∧ ∀ f, RelO (fs.lookup f) (mA f)
 | .rng lo hi => ∃ t u v, h.get? a = some { cls := .type "range", data := .fields #[.int lo t, .int hi u, .int 1 v] }
 | .frz o u => h.get? a = some o ∧ ObjOk H h a u
 | .tbl ps => h.get? a = some { cls := .none, data := .fields ps }
 | .met f x => h.get? a = some (PySem.W.methodObj (.ref f) (.ref x))
 | .ext φ => φ h ∧ (∃ o, h.get? a = some o) ∧ ∀ h1 h2 : Heap, φ h1 → (∀ o, h1.get? a = some o → h2.get? a = some o) → φ h2
noncomputable def HOk (H : Hp) (h : Heap) : Prop := ∀ a o, H a = some o → ObjOk P w H h a o
end
section
variable {P : Program} {w : World} {H H' : Hp} {h h' : Heap} {a : Addr} {o : HO}
theorem ObjOk.lt (x : ObjOk P w H h a o) : a < h.objs.size := by
 cases o with
 | lst xs => obtain ⟨_, _, _, _, e⟩ := x; exact Heap.lt_size e
 | tup xs => obtain ⟨_, _, _, p⟩ := x; exact p.lt
 | dK kvs => obtain ⟨_, _, _, _, o, _, _, e, _⟩ := x; exact Heap.lt_size e
 | dT kvs => obtain ⟨_, _, _, _, o, _, _, e, _⟩ := x; exact Heap.lt_size e
 | set S n => obtain ⟨o, _, _, _, e, _⟩ := x; exact Heap.lt_size e
 | ins C dx fs => obtain ⟨_, _, _, e, _⟩ := x; exact Heap.lt_size e
 | own y => obtain ⟨_, e⟩ := x; exact Heap.lt_size e
 | xd fs => obtain ⟨_, ⟨_, _, _, e, _⟩, _⟩ := x; exact Heap.lt_size e
 | rng lo hi => obtain ⟨_, _, _, e⟩ := x; exact Heap.lt_size e
 | frz ob u => obtain ⟨e, _⟩ := x; exact Heap.lt_size e
 | tbl ps => exact Heap.lt_size (show h.get? a = some _ from x)
 | met f y => exact Heap.lt_size (show h.get? a = some _ from x)
 | ext φ => obtain ⟨_, ⟨_, e⟩, _⟩ := x; exact Heap.lt_size e
theorem Paired.mapP {α β : Type} {F G : α → β → Prop} : ∀ {l₁ : List α} {l₂ : List β}, Paired F l₁ l₂ → (∀ a b, F a b → G a b) → Paired G l₁ l₂
 | _, _, .nil, _ => .nil
 | _, _, .cons r t, f => .cons (f _ _ r) (Paired.mapP t f)
theorem Paired.imp' {α β : Type} {F G : α → β → Prop} (f : ∀ a b, F a b → G a b) {l₁ : List α} {l₂ : List β} (r : Paired F l₁ l₂) : Paired G l₁ l₂ := Paired.mapP r f
theorem ObjOk.stay (x : ObjOk P w H h a o) (k : ∀ b u, (b = a ∨ H b = some (.own a)) → h.get? b = some u → h'.get? b = some u)
  (ho : ∀ b, H b = some (.own a) → H' b = some (.own a)) (ht : ∀ b xs, H b = some (.tup xs) → H' b = some (.tup xs)) : ObjOk P w H' h' a o := by
 induction o with
 | lst xs => obtain ⟨z, its, n, r, e⟩ := x; exact ⟨z, its, n, r, k _ _ (.inl rfl) e⟩
 | tup xs => obtain ⟨z, its, r, ob, e, c⟩ := x; exact ⟨z, its, r, ob, k _ _ (.inl rfl) e, c⟩
 | dK kvs => obtain ⟨z, y, vs, r, ob, es, ep, e, c⟩ := x; exact ⟨z, y, vs, r, ob, es, ep, k _ _ (.inl rfl) e, c⟩
 | dT kvs =>
  obtain ⟨z, y, xs, r, ob, es, ep, e, c⟩ := x
  exact ⟨z, y, xs, Paired.mapP r fun p q z => ⟨z.1, ht _ _ z.2.1, z.2.2⟩, ob, es, ep, k _ _ (.inl rfl) e, c⟩
 | set S n => obtain ⟨ob, es, ep, t, e, c⟩ := x; exact ⟨ob, es, ep, t, k _ _ (.inl rfl) e, c⟩
 | ins C dx fs =>
  obtain ⟨d, z, ne, e, mA, ⟨od, es, ep, e2, c⟩, r⟩ := x
  exact ⟨ho _ d, z, ne, k _ _ (.inl rfl) e, mA, ⟨od, es, ep, k _ _ (.inr d) e2, c⟩, r⟩
 | own y => obtain ⟨ob, e⟩ := x; exact ⟨ob, k _ _ (.inl rfl) e⟩
 | xd fs => obtain ⟨mA, ⟨od, es, ep, e, c⟩, r⟩ := x; exact ⟨mA, ⟨od, es, ep, k _ _ (.inl rfl) e, c⟩, r⟩
 | rng lo hi => obtain ⟨t, u, v, e⟩ := x; exact ⟨t, u, v, k _ _ (.inl rfl) e⟩
 | frz ob u ih => obtain ⟨e, q⟩ := x; exact ⟨k _ _ (.inl rfl) e, ih q⟩
 | tbl ps =>
  have e : h.get? a = some { cls := .none, data := .fields ps } := x
  show h'.get? a = some { cls := .none, data := .fields ps }
  exact k a _ (.inl rfl) e
 | met f y =>
  have e : h.get? a = some (PySem.W.methodObj (.ref f) (.ref y)) := x
  show h'.get? a = some (PySem.W.methodObj (.ref f) (.ref y))
  exact k a _ (.inl rfl) e
 | ext φ => obtain ⟨p, ⟨o, e⟩, st⟩ := x; exact ⟨st _ _ p fun o q => k _ _ (.inl rfl) q, ⟨o, k _ _ (.inl rfl) e⟩, st⟩
theorem HOk.lt (x : HOk P w H h) (e : H a = some o) : a < h.objs.size := (x a o e).lt
theorem HOk.fresh (x : HOk P w H h) (e : h.objs.size ≤ a) : H a = none := by
 cases q : H a with
 | none => rfl
 | some u => exact absurd (Nat.lt_of_lt_of_le (x.lt q) e) (Nat.lt_irrefl _)
theorem HOk.kept (x : HOk P w H h) (k : ∀ b u, h.get? b = some u → h'.get? b = some u) : HOk P w H h' := fun a o e =>
 (x a o e).stay (fun b u _ q => k b u q) (fun _ q => q) fun _ _ q => q
theorem HOk.laid (x : HOk P w H h) (k : ∀ b u, h.get? b = some u → h'.get? b = some u) (hp : h.objs.size ≤ a) (new : ObjOk P w (upd H a o) h' a o) : HOk P w (upd H a o) h' := fun b u e => by
 have hn := x.fresh hp
 by_cases hb : b = a
 ·subst hb; rw [upd_same] at e; cases e; exact new
 ·rw [upd_ne hb] at e
  exact (x b u e).stay (fun c v _ q => k c v q) (fun c q => by rw [upd_ne (ne_of_none q hn)]; exact q) fun c xs q => by rw [upd_ne (ne_of_none q hn)]; exact q
end
noncomputable def Rd (H : Hp) (a : Addr) (u : HO) : Prop := H a = some u ∨ ∃ o, H a = some (.frz o u)
theorem Rd.ok {P : Program} {w : World} {H : Hp} {h : Heap} {a : Addr} {u : HO} (r : Rd H a u) (x : HOk P w H h) : ObjOk P w H h a u := by
 rcases r with r | ⟨o, r⟩
 ·exact x a u r
 ·obtain ⟨_, q⟩ := x a _ r
  exact q
noncomputable def Mut : Option HO → Prop
 | some (.lst _) => True
 | some (.dK _) => True
 | some (.dT _) => True
 | some (.set _ _) => True
 | some (.ins _ _ _) => True
 | some (.ext _) => True
 | _ => False
section
variable {P : Program} {w : World} {H : Hp} {h h' : Heap} {x e : Addr} {o' : HO}
theorem HOk.write (ok : HOk P w H h) (mu : Mut (H x)) (he : e = x ∨ H e = some (.own x)) (k : ∀ b u, b ≠ e → h.get? b = some u → h'.get? b = some u) (heo : ∃ u, h'.get? e = some u)
  (new : ObjOk P w (upd H x o') h' x o') : HOk P w (upd H x o') h' := fun b u q => by
 have nown : ∀ c y, H c = some (.own y) → c ≠ x := fun c y r z => by subst z; rw [r] at mu; exact mu
 have ntup : ∀ c xs, H c = some (.tup xs) → c ≠ x := fun c xs r z => by subst z; rw [r] at mu; exact mu
 by_cases hb : b = x
 ·subst hb; rw [upd_same] at q; cases q; exact new
 ·rw [upd_ne hb] at q
  by_cases hbe : b = e
  ·have q' : H b = some (.own x) := by
    rcases he with z | z
    ·exact absurd (hbe.trans z) hb
    ·rw [hbe]; exact z
   rw [q] at q'; cases q'
   obtain ⟨v, hv⟩ := heo
   exact ⟨v, by rw [hbe]; exact hv⟩
  ·refine (ok b u q).stay (fun c v hc r => k c v ?_ r) (fun c r => by rw [upd_ne (nown c b r)]; exact r) fun c xs r => by rw [upd_ne (ntup c xs r)]; exact r
   rcases hc with rfl | hc
   ·exact hbe
   ·rintro rfl
    rcases he with z | z
    ·exact nown c b hc z
    ·rw [hc] at z; cases z; exact hb rfl
end
structure Un (fs ex : List Addr) (H H' : Hp) (h h' : Heap) : Prop where
 keep : ∀ b o, h.get? b = some o → H b = none → b ∉ fs → b ∉ ex → h'.get? b = some o
 slot : ∀ b o, h.get? b = some o → H b = none → b ∈ fs → b ∉ ex → ∃ sl, h'.get? b = some { o with slots := sl }
 free : ∀ b o, h.get? b = some o → H b = none → b ∉ ex → H' b = none
 there : ∀ b o, h.get? b = some o → b ∉ ex → ∃ o', h'.get? b = some o'
 tups : ∀ b xs, H b = some (.tup xs) → H' b = some (.tup xs)
 frzs : ∀ b o u, H b = some (.frz o u) → H' b = some (.frz o u)
 tbls : ∀ b ps, H b = some (.tbl ps) → ∃ more, H' b = some (.tbl (ps ++ more))
section
variable {fs fs' ex ex' : List Addr} {H H1 H2 : Hp} {h h1 h2 h' : Heap} {a x e : Addr} {o : HO}
theorem Un.any (u : Un fs ex H H1 h h1) {b : Addr} {ob : Obj} (q : h.get? b = some ob) (n : H b = none) (hx : b ∉ ex) : ∃ sl, h1.get? b = some { ob with slots := sl } := by
 by_cases hb : b ∈ fs
 ·exact u.slot b ob q n hb hx
 ·exact ⟨ob.slots, u.keep b ob q n hb hx⟩
theorem Un.kept (k : ∀ b u, h.get? b = some u → h'.get? b = some u) : Un fs ex H H h h' :=
 ⟨fun b ob q _ _ _ => k b ob q, fun b ob q _ _ _ => ⟨ob.slots, k b ob q⟩, fun _ _ _ n _ => n, fun b ob q _ => ⟨ob, k b ob q⟩, fun _ _ q => q, fun _ _ _ q => q, fun _ ps q => ⟨#[], by rw [q]; simp⟩⟩
theorem Un.refl : Un fs ex H H h h := Un.kept fun _ _ q => q
theorem Un.laid (k : ∀ b u, h.get? b = some u → h'.get? b = some u) (hp : h.objs.size ≤ a) (hn : H a = none) : Un fs ex H (upd H a o) h h' where
 keep := fun b u q _ _ _ => k b u q
 slot := fun b u q _ _ _ => ⟨u.slots, k b u q⟩
 free := fun b u q n _ => by rw [upd_ne (Nat.ne_of_lt (Nat.lt_of_lt_of_le (Heap.lt_size q) hp))]; exact n
 there := fun b u q _ => ⟨u, k b u q⟩
 tups := fun b xs q => by rw [upd_ne (ne_of_none q hn)]; exact q
 frzs := fun b u xs q => by rw [upd_ne (ne_of_none q hn)]; exact q
 tbls := fun b ps q => ⟨#[], by rw [upd_ne (ne_of_none q hn), q]; simp⟩
theorem Un.write (mu : Mut (H x)) (he : e = x ∨ H e = some (.own x)) (k : ∀ b u, b ≠ e → h.get? b = some u → h'.get? b = some u) (heo : ∃ u, h'.get? e = some u) : Un fs ex H (upd H x o) h h' := by
 have hx : ∀ b, H b = none → b ≠ x := fun b n z => by subst z; rw [n] at mu; exact mu
 have hb : ∀ b, H b = none → b ≠ e := fun b n z => by
  subst z
  rcases he with r | r
  ·exact hx b n r
  ·rw [n] at r; cases r
 have hm : ∀ b u, H b = some u → ¬ Mut (some u) → b ≠ x := fun b u q nm z => by subst z; rw [q] at mu; exact nm mu
 refine ⟨fun b u q n _ _ => k b u (hb b n) q, fun b u q n _ _ => ⟨u.slots, k b u (hb b n) q⟩, fun b u q n _ => by rw [upd_ne (hx b n)]; exact n, fun b u q _ => ?_,
  fun b xs q => by rw [upd_ne (hm b _ q fun z => z)]; exact q, fun b u xs q => by rw [upd_ne (hm b _ q fun z => z)]; exact q, fun b ps q => ⟨#[], by rw [upd_ne (hm b _ q fun z => z), q]; simp⟩⟩
 by_cases hbe : b = e
 ·subst hbe; exact heo
 ·exact ⟨u, k b u hbe q⟩
end
noncomputable def trk (h : Heap) (H : Hp) : List Addr := (List.range h.objs.size).filter fun a => (H a).isSome
noncomputable def hidT (h : Heap) (H : Hp) : Heap := PySem.W.hideAll h (trk h H)
theorem hidT_size (h : Heap) (H : Hp) : (hidT h H).objs.size = h.objs.size := PySem.W.hideAll_size _ _
theorem hidT_get {h : Heap} {H : Hp} {b : Addr} {o : Obj} (e : h.get? b = some o) (n : H b = none) : (hidT h H).get? b = some o :=
 PySem.W.hideAll_get _ e fun hm => by
  have q : (H b).isSome = true := (List.mem_filter.mp hm).2
  rw [n] at q; simp at q
theorem of_hidT {h : Heap} {H : Hp} {b : Addr} {o : Obj} (e : (hidT h H).get? b = some o) : h.get? b = some o ∧ H b = none := by
 have e' : h.get? b = some o := PySem.W.of_hideAll (trk h H) e
 refine ⟨e', ?_⟩
 cases q : H b with
 | none => rfl
 | some x =>
  have hm : b ∈ trk h H := List.mem_filter.mpr ⟨List.mem_range.mpr (Heap.lt_size e'), by simp [q]⟩
  have z : (hidT h H).get? b = none := PySem.W.hideAll_none (trk h H) hm
  rw [z] at e; cases e
end L2
namespace L2
open PySem PySem.Spec PyProof.Rows
structure Mod (K : PySem.W.Frag) (mg : Str → Option Value) (base : Heap) : Prop where
 kin : K.In base
 glob : base.Ns mainGlobals mg
 blt : ∃ mb, base.Ns builtinsNs mb ∧ ∀ x : Str, x ≠ "__name__" → mb x = bootBuiltins x
 nolimit : base.NoLimit
/-- the context: a def's body (or a comprehension's block) running. base: fixed through the whole law; s₀, H₀: the entry; outer: the frames whose slots others may change (a def's callers); stack: all frames that run;
  ex: iterators that were made ahead of the entry and are walked here (a comprehension's); fn: the names whose cells were made at the entry (a def: all; a comprehension's block: its own); calm: not within an except suite; pn: pins that every state bears; xe: what is wanted of an exception that leaves the code -/
structure Cx where
 prog : Program
 w : World
 K : PySem.W.Frag
 mg : Str → Option Value
 base : Heap
 A : Around
 N : List Str
 s₀ : Shared
 H₀ : Hp
 env : Env
 outer : List Env
 stack : List Env
 ex : List Addr
 fn : Str → Bool
 calm : Bool
 pn : List (Addr × Obj)
 xe : Value → Shared → Prop
noncomputable def frs (l : List Env) : List Addr := l.filterMap (·.frame)
noncomputable abbrev Cx.fs (X : Cx) : List Addr := frs X.outer
noncomputable def Vis (sc : Scope) (x : Str) : Prop := sc.names.lookup x = some .local ∨ sc.names.lookup x = some .cell ∨ sc.names.lookup x = some .free
noncomputable def Loc (sc : Scope) (x : Str) : Prop := sc.names.lookup x = some .local ∨ sc.names.lookup x = some .cell
noncomputable def Look (env : Env) (h : Heap) (m : Str → Option Value) (x : Str) (u : Value) : Prop :=
 (env.kindOf x = some .local ∧ m x = some u) ∨ ((env.kindOf x = some .cell ∨ env.kindOf x = some .free) ∧ ∃ c, env.cells.lookup x = some c ∧ h.IsCell c (some u))
structure Cx.Ok (X : Cx) : Prop where
 mod : Mod X.K X.mg X.base
 kind : X.env.scope.kind = .function
 glob : X.env.globals = mainGlobals
 blt : X.env.builtins = builtinsNs
 above : X.s₀.heap.objs.size ≤ X.env.locals
 inj : ∀ x y c, X.env.cells.lookup x = some c → X.env.cells.lookup y = some c → x = y
 has : ∀ x, (X.env.kindOf x = some .cell ∨ X.env.kindOf x = some .free) → ∃ c, X.env.cells.lookup x = some c
 cab : ∀ x c, X.fn x = true → X.env.cells.lookup x = some c → X.s₀.heap.objs.size ≤ c
 hd : X.calm = true → X.A.handled = none
 frames : X.A.frames = some X.stack
 stk : X.stack = X.outer ∨ (X.stack = X.env :: X.outer ∧ X.env.frame = some X.env.locals)
 exf : ∀ b ∈ X.ex, b ≠ X.env.locals ∧ ∀ x c, X.env.cells.lookup x = some c → c ≠ b
 bs : ∀ b o, X.base.get? b = some o → X.s₀.heap.get? b = some o ∧ X.H₀ b = none
 bsz : X.base.objs.size ≤ X.s₀.heap.objs.size
 noex : ∀ b o, X.base.get? b = some o → b ∉ X.ex
 exfs : ∀ b ∈ X.ex, b ∉ X.fs
 funs : X.s₀.heap.FunFrames X.base X.outer
 frf : ∀ b ∈ X.fs, X.H₀ b = none
structure Inv (X : Cx) (pins : List (Addr × Obj)) (σ : List (Option V)) (H : Hp) (s : Shared) : Prop where
 ok : X.Ok
 os : s.os = X.s₀.os
 bare : AllBare s.gens
 base : Un X.fs X.ex X.H₀ H X.s₀.heap s.heap
 loc : ∃ m, s.heap.Ns X.env.locals m ∧ ∀ (i : Nat) (x : Str) (v : V), X.N[i]? = some x → σ[i]? = some (some v) → Vis X.env.scope x → ∃ u, RelV v u ∧ Look X.env s.heap m x u
 cell : ∀ x c, X.env.cells.lookup x = some c → ∃ v, s.heap.IsCell c v
 free : H X.env.locals = none
 freeC : ∀ x c, X.env.cells.lookup x = some c → H c = none
 pin : ∀ p ∈ X.pn ++ pins, s.heap.get? p.1 = some p.2 ∧ H p.1 = none ∧ p.1 ≠ X.env.locals ∧ p.1 ∉ X.fs ∧ ∀ v, p.2.data ≠ .cell v
 hok : HOk X.prog X.w H s.heap
 len : σ.length = X.N.length
section
variable {X : Cx} {pins : List (Addr × Obj)} {σ : List (Option V)} {H H' : Hp} {s : Shared} {h' : Heap}
theorem Cx.Ok.nofr (ok : X.Ok) {b : Addr} {o : Obj} (e : X.base.get? b = some o) : b ∉ X.fs := fun hb => by
 have := (ok.funs.mem hb).1
 rw [e] at this; cases this
theorem Inv.bs (I : Inv X pins σ H s) : ∀ b o, X.base.get? b = some o → s.heap.get? b = some o ∧ H b = none := fun b o e =>
 ⟨I.base.keep b o (I.ok.bs b o e).1 (I.ok.bs b o e).2 (I.ok.nofr e) (I.ok.noex b o e), I.base.free b o (I.ok.bs b o e).1 (I.ok.bs b o e).2 (I.ok.noex b o e)⟩
theorem Inv.bk (I : Inv X pins σ H s) : ∀ b o, X.base.get? b = some o → s.heap.get? b = some o := fun b o e => (I.bs b o e).1
theorem Inv.mod (I : Inv X pins σ H s) : Mod X.K X.mg X.base := I.ok.mod
theorem Inv.kIn (I : Inv X pins σ H s) : X.K.In s.heap := I.ok.mod.kin.keeps I.bk
theorem Inv.nolimit (I : Inv X pins σ H s) : s.heap.NoLimit := I.ok.mod.nolimit.keeps I.bk
theorem Inv.fr (I : Inv X pins σ H s) : ∃ m, Fr X.base X.env.locals s.heap m :=
 let ⟨m, hn, _⟩ := I.loc
 ⟨m, hn, I.bk, Nat.le_trans I.ok.bsz I.ok.above⟩
theorem Inv.lt (I : Inv X pins σ H s) : X.env.locals < s.heap.objs.size := let ⟨_, hn, _⟩ := I.loc; hn.lt
theorem Inv.sz (I : Inv X pins σ H s) : X.s₀.heap.objs.size ≤ s.heap.objs.size := Nat.le_trans I.ok.above (Nat.le_of_lt I.lt)
theorem Inv.nofs (I : Inv X pins σ H s) {a : Addr} (h : s.heap.objs.size ≤ a) : a ∉ X.fs := fun hb => by
 obtain ⟨_, o, ho, _⟩ := I.ok.funs.mem hb
 exact absurd (Nat.lt_of_lt_of_le (Heap.lt_size ho) (Nat.le_trans I.sz h)) (Nat.lt_irrefl _)
theorem Inv.cne (I : Inv X pins σ H s) : ∀ x c, X.env.cells.lookup x = some c → c ≠ X.env.locals := fun x c e z => by
 obtain ⟨v, o, ho, hd⟩ := I.cell x c e
 obtain ⟨m, ⟨o', es, ep, ho', hd', _⟩, _⟩ := I.loc
 rw [z, ho'] at ho; cases ho; rw [hd'] at hd; cases hd
theorem Inv.funs (I : Inv X pins σ H s) : s.heap.FunFrames X.base X.outer := by
 have all : ∀ (l : List Env), (∀ b ∈ frs l, b ∈ X.fs) → X.s₀.heap.FunFrames X.base l → s.heap.FunFrames X.base l := by
  intro l
  induction l with
  | nil => intro _ _; trivial
  | cons env r ih =>
   intro hs hl
   obtain ⟨hk, ⟨L, o, hf, hn, ho, hd⟩, hr⟩ := hl
   have hL : L ∈ X.fs := hs L (by unfold frs; rw [List.filterMap_cons, hf]; exact List.mem_cons_self)
   obtain ⟨sl, e⟩ := I.base.slot L o ho (I.ok.frf L hL) hL fun z => I.ok.exfs L z hL
   exact ⟨hk, ⟨L, _, hf, hn, e, hd⟩, ih (fun b hb => hs b (by unfold frs; rw [List.filterMap_cons, hf]; exact List.mem_cons_of_mem _ hb)) hr⟩
 exact all X.outer (fun _ hb => hb) I.ok.funs
theorem Inv.stack (I : Inv X pins σ H s) : s.heap.FunFrames X.base X.stack := by
 rcases I.ok.stk with e | ⟨e, hf⟩
 ·rw [e]; exact I.funs
 ·rw [e]
  obtain ⟨m, hn, _⟩ := I.loc
  refine .cons (by rw [I.ok.kind]; decide) hf hn ?_ I.funs
  exact Heap.get?_none_of_le (Nat.le_trans I.ok.bsz I.ok.above)
theorem Inv.stkSub (I : Inv X pins σ H s) : ∀ b ∈ frs X.stack, b ∈ X.env.locals :: X.fs := fun b hb => by
 rcases I.ok.stk with e | ⟨e, hf⟩
 ·rw [e] at hb; exact List.mem_cons_of_mem _ hb
 ·rw [e] at hb
  unfold frs at hb
  rw [List.filterMap_cons, hf] at hb
  exact hb
theorem Inv.stkFree (I : Inv X pins σ H s) : ∀ b ∈ frs X.stack, H b = none := fun b hb => by
 rcases List.mem_cons.mp (I.stkSub b hb) with e | hb
 ·rw [e]; exact I.free
 ·obtain ⟨_, o, ho, _⟩ := I.ok.funs.mem hb
  exact I.base.free b o ho (I.ok.frf b hb) fun z => I.ok.exfs b z hb
theorem Inv.step {g' : Array GenState} {t' : Nat} {d' : Drawn} {ch : List Addr} (I : Inv X pins σ H s)
  (hch : ∀ b ∈ ch, (b ∈ X.ex ∨ X.s₀.heap.objs.size ≤ b) ∧ b ≠ X.env.locals ∧ (∀ x c, X.env.cells.lookup x = some c → c ≠ b) ∧ ∀ p ∈ X.pn ++ pins, p.1 ≠ b)
  (keep : ∀ b o, b ≠ X.env.locals → b ∉ X.fs → b ∉ ch → s.heap.get? b = some o → H b = none → h'.get? b = some o)
  (slot : ∀ b o, b ≠ X.env.locals → b ∈ X.fs → b ∉ ch → s.heap.get? b = some o → H b = none → ∃ sl, h'.get? b = some { o with slots := sl }) (free : ∀ b o, b ∉ ch → s.heap.get? b = some o → H b = none → H' b = none)
  (there : ∀ b o, b ∉ ch → s.heap.get? b = some o → ∃ o', h'.get? b = some o')
  (tups : ∀ b xs, H b = some (.tup xs) → H' b = some (.tup xs)) (frzs : ∀ b o u, H b = some (.frz o u) → H' b = some (.frz o u)) (tbls : ∀ b ps, H b = some (.tbl ps) → ∃ more, H' b = some (.tbl (ps ++ more)))
  (ns : ∀ m, s.heap.Ns X.env.locals m → h'.Ns X.env.locals m) (hok : HOk X.prog X.w H' h') (hg : AllBare g') :
  Inv X pins σ H' { s with heap := h', gens := g', drawn := d', toks := t' } := by
 have neL : ∀ b o, X.s₀.heap.get? b = some o → b ≠ X.env.locals := fun b o e => Nat.ne_of_lt (Nat.lt_of_lt_of_le (Heap.lt_size e) I.ok.above)
 have neC : ∀ b o, X.s₀.heap.get? b = some o → b ∉ X.ex → b ∉ ch := fun b o e hx hb => by
  rcases (hch b hb).1 with z | z
  ·exact hx z
  ·exact absurd (Nat.lt_of_lt_of_le (Heap.lt_size e) z) (Nat.lt_irrefl _)
 have cellK : ∀ x c, X.env.cells.lookup x = some c → ∀ v, s.heap.IsCell c v → h'.IsCell c v := fun x c e v hX11_ => by
  obtain ⟨o, ho, hd⟩ := hX11_
  have nch : c ∉ ch := fun z => (hch c z).2.2.1 x c e rfl
  by_cases hc : c ∈ X.fs
  ·obtain ⟨sl, q⟩ := slot c o (I.cne x c e) hc nch ho (I.freeC x c e)
   exact ⟨_, q, hd⟩
  ·exact ⟨o, keep c o (I.cne x c e) hc nch ho (I.freeC x c e), hd⟩
 refine ⟨I.ok, I.os, hg, ⟨fun b o e n hb hx => ?_, fun b o e n hb hx => ?_, fun b o e n hx => ?_, fun b o e hx => ?_, fun b xs e => tups b xs (I.base.tups b xs e), fun b o xs e => frzs b o xs (I.base.frzs b o xs e), fun b ps e => ?_⟩, ?_, fun x c e => ?_, ?_, fun x c e => ?_, fun p hp => ?_, hok, I.len⟩
 ·exact keep b o (neL b o e) hb (neC b o e hx) (I.base.keep b o e n hb hx) (I.base.free b o e n hx)
 ·obtain ⟨sl, e1⟩ := I.base.slot b o e n hb hx
  obtain ⟨sl', e2⟩ := slot b _ (neL b o e) hb (neC b o e hx) e1 (I.base.free b o e n hx)
  exact ⟨sl', e2⟩
 ·obtain ⟨o', e1⟩ := I.base.there b o e hx
  exact free b o' (neC b o e hx) e1 (I.base.free b o e n hx)
 ·obtain ⟨o', e1⟩ := I.base.there b o e hx
  exact there b o' (neC b o e hx) e1
 ·obtain ⟨m1, e1⟩ := I.base.tbls b ps e
  obtain ⟨m2, e2⟩ := tbls b _ e1
  exact ⟨m1 ++ m2, by rw [e2, Array.append_assoc]⟩
 ·obtain ⟨m, hn, hl⟩ := I.loc
  refine ⟨m, ns m hn, fun i x v e1 e2 e3 => ?_⟩
  obtain ⟨u, r, l⟩ := hl i x v e1 e2 e3
  refine ⟨u, r, ?_⟩
  rcases l with l | ⟨k, c, e, z⟩
  ·exact .inl l
  ·exact .inr ⟨k, c, e, cellK x c e _ z⟩
 ·obtain ⟨v, z⟩ := I.cell x c e
  exact ⟨v, cellK x c e v z⟩
 ·obtain ⟨m, ⟨o, _, _, ho, _⟩, _⟩ := I.loc
  exact free _ o (fun z => (hch _ z).2.1 rfl) ho I.free
 ·obtain ⟨v, o, ho, hd⟩ := I.cell x c e
  exact free c o (fun z => (hch c z).2.2.1 x c e rfl) ho (I.freeC x c e)
 ·obtain ⟨e, n, ne, nf, d⟩ := I.pin p hp
  have nch : p.1 ∉ ch := fun z => (hch p.1 z).2.2.2 p hp rfl
  exact ⟨keep p.1 p.2 ne nf nch e n, free p.1 p.2 nch e n, ne, nf, d⟩
theorem Inv.un {t' : Nat} (I : Inv X pins σ H s) (u : Un X.fs [] H H' s.heap h') (hok : HOk X.prog X.w H' h') : Inv X pins σ H' { s with heap := h', toks := t' } := by
 obtain ⟨m, ⟨o, es, ep, ho, r⟩, _⟩ := id I.loc
 obtain ⟨sl, hL⟩ := u.any ho I.free (by simp)
 exact I.step (g' := s.gens) (d' := s.drawn) (ch := []) (fun _ z => nomatch z) (fun b o _ hb _ e n => u.keep b o e n hb (by simp)) (fun b o _ hb _ e n => u.slot b o e n hb (by simp)) (fun b o _ e n => u.free b o e n (by simp)) (fun b o _ e => u.there b o e (by simp)) u.tups u.frzs u.tbls (fun m' hm => by
  obtain ⟨o', es', ep', ho', r'⟩ := hm
  rw [ho] at ho'; cases ho'
  exact ⟨_, es', ep', hL, r'⟩) hok I.bare
theorem Inv.call {g' : Array GenState} {t' : Nat} {d' : Drawn} {ch : List Addr} (I : Inv X pins σ H s) (u : Un (frs X.stack) ch H H' s.heap h') (hok : HOk X.prog X.w H' h') (hg : AllBare g')
  (hch : ∀ b ∈ ch, (b ∈ X.ex ∨ X.s₀.heap.objs.size ≤ b) ∧ b ≠ X.env.locals ∧ (∀ x c, X.env.cells.lookup x = some c → c ≠ b) ∧ ∀ p ∈ X.pn ++ pins, p.1 ≠ b) :
  Inv X pins σ H' { s with heap := h', gens := g', drawn := d', toks := t' } := by
 obtain ⟨m, ⟨o, es, ep, ho, r⟩, _⟩ := id I.loc
 obtain ⟨sl, hL⟩ := u.any ho I.free fun z => (hch _ z).2.1 rfl
 exact I.step (ch := ch) hch (fun b o hL hb hc e n => u.keep b o e n (fun z => (List.mem_cons.mp (I.stkSub b z)).elim hL hb) hc) (fun b o _ _ hc e n => u.any e n hc) (fun b o hc e n => u.free b o e n hc) (fun b o hc e => u.there b o e hc) u.tups u.frzs u.tbls (fun m' hm => by
  obtain ⟨o', es', ep', ho', r'⟩ := hm
  rw [ho] at ho'; cases ho'
  exact ⟨_, es', ep', hL, r'⟩) hok hg
theorem Inv.turned {t' : Nat} {it : Addr} (I : Inv X pins σ H s) (k : ∀ b o, b ≠ it → s.heap.get? b = some o → h'.get? b = some o) (hn : H it = none) (hL : it ≠ X.env.locals)
  (h1 : it ∈ X.ex ∨ X.s₀.heap.objs.size ≤ it) (h2 : ∀ x c, X.env.cells.lookup x = some c → c ≠ it) (h3 : ∀ p ∈ X.pn ++ pins, p.1 ≠ it) : Inv X pins σ H { s with heap := h', toks := t' } := by
 have nit : ∀ b u, H b = some u → b ≠ it := fun b u e z => by rw [z, hn] at e; cases e
 refine I.step (g' := s.gens) (d' := s.drawn) (ch := [it]) (fun b hb => ?_) (fun b o _ _ hc e _ => k b o (fun z => hc (by simp [z])) e) (fun b o _ _ hc e _ => ⟨o.slots, k b o (fun z => hc (by simp [z])) e⟩) (fun _ _ _ _ n => n)
  (fun b o hc e => ⟨o, k b o (fun z => hc (by simp [z])) e⟩) (fun _ _ e => e) (fun _ _ _ e => e) (fun b ps e => ⟨#[], by rw [e]; simp⟩) (fun m hm => ?_) (fun b u e => ?_) I.bare
 ·have e : b = it := by simpa using hb
  subst e
  exact ⟨h1, hL, h2, h3⟩
 ·obtain ⟨o, es, ep, ho, r⟩ := hm
  exact ⟨o, es, ep, k _ o (Ne.symm hL) ho, r⟩
 ·refine (I.hok b u e).stay (fun c v hc q => k c v ?_ q) (fun _ q => q) fun _ _ q => q
  rcases hc with z | z
  ·rw [z]; exact nit b u e
  ·exact nit c _ z
theorem Inv.tok (I : Inv X pins σ H s) (t : Nat) : Inv X pins σ H { s with toks := t } := I.un (h' := s.heap) (t' := t) Un.refl I.hok
theorem Inv.kept {t' : Nat} (I : Inv X pins σ H s) (k : ∀ b u, s.heap.get? b = some u → h'.get? b = some u) : Inv X pins σ H { s with heap := h', toks := t' } := I.un (Un.kept k) (I.hok.kept k)
theorem Inv.laid {a : Addr} {o : HO} {t' : Nat} (I : Inv X pins σ H s) (k : ∀ b u, s.heap.get? b = some u → h'.get? b = some u) (hp : s.heap.objs.size ≤ a) (new : ObjOk X.prog X.w (upd H a o) h' a o) :
  Inv X pins σ (upd H a o) { s with heap := h', toks := t' } := I.un (Un.laid k hp (I.hok.fresh hp)) (I.hok.laid k hp new)
theorem Inv.write {x e : Addr} {o : HO} {t' : Nat} (I : Inv X pins σ H s) (mu : Mut (H x)) (he : e = x ∨ H e = some (.own x)) (k : ∀ b u, b ≠ e → s.heap.get? b = some u → h'.get? b = some u) (heo : ∃ u, h'.get? e = some u)
  (new : ObjOk X.prog X.w (upd H x o) h' x o) : Inv X pins σ (upd H x o) { s with heap := h', toks := t' } := I.un (Un.write mu he k heo) (I.hok.write mu he k heo new)
theorem Inv.pins_of {pins' : List (Addr × Obj)} (I : Inv X pins σ H s) (h : ∀ p ∈ pins', s.heap.get? p.1 = some p.2 ∧ H p.1 = none ∧ p.1 ≠ X.env.locals ∧ p.1 ∉ X.fs ∧ ∀ v, p.2.data ≠ .cell v) : Inv X pins' σ H s :=
 ⟨I.ok, I.os, I.bare, I.base, I.loc, I.cell, I.free, I.freeC, fun p hp => (List.mem_append.mp hp).elim (fun z => I.pin p (List.mem_append_left _ z)) (h p), I.hok, I.len⟩
theorem nodup_ix {N : List Str} (hN : N.Nodup) {i j : Nat} {x : Str} (a : N[i]? = some x) (b : N[j]? = some x) : i = j := by
 obtain ⟨h1, e1⟩ := List.getElem?_eq_some_iff.mp a
 obtain ⟨h2, e2⟩ := List.getElem?_eq_some_iff.mp b
 exact (List.getElem_inj hN).mp (e1.trans e2.symm)
theorem store_ok2 {M : Model} {A : Around} {E : Value → Shared → Prop} {i : Nat} {x : Str} {v : V} {u : Value} {Q : Unit → Shared → Prop} (I : Inv X pins σ H s) (hN : X.N.Nodup) (hi : X.N[i]? = some x) (hx : Loc X.env.scope x) (r : RelV v u)
  (h : ∀ s', Inv X pins (σ.set i (some v)) H s' → (∃ a, Heap.SameBut a s.heap s'.heap ∧ (a = X.env.locals ∨ X.env.cells.lookup x = some a)) → Q () s') (hf : X.fn x = true ∨ X.env.scope.names.lookup x = some .local := by first | exact .inl rfl | exact .inr rfl | assumption) : wpAny M A (storeName X.env x u) Q E s := by
 obtain ⟨m, hn, hl⟩ := id I.loc
 have hcls : (X.env.scope.kind == .class || (X.env.scope.kind == .module && X.env.locals != X.env.globals)) = false := by rw [I.ok.kind]; rfl
 have hiσ : i < σ.length := by rw [I.len]; exact (List.getElem?_eq_some_iff.mp hi).1
 have cne := I.cne
 have tracked : ∀ {a : Addr} {h' : Heap}, (∃ o, s.heap.get? a = some o ∧ H a = none) → Heap.SameBut a s.heap h' → HOk X.prog X.w H h' := fun {a h'} ha hs b ob e => by
  obtain ⟨_, _, hfree⟩ := ha
  refine (I.hok b ob e).stay (fun c w' hc q => (hs.2 c ?_).trans q) (fun _ q => q) fun _ _ q => q
  rintro rfl
  rcases hc with rfl | hc
  ·rw [hfree] at e; cases e
  ·rw [hfree] at hc; cases hc
 rcases hx with hk | hk
 ·refine wpAny_storeName_local hk hn (fun h' hn' hs => ?_) hcls
  obtain ⟨oL, _, _, hoL, _⟩ := id hn
  refine h _ ⟨I.ok, I.os, I.bare, ⟨fun b o e n hb hx => ?_, fun b o e n hb hx => ?_, I.base.free, fun b o e hx => ?_, I.base.tups, I.base.frzs, I.base.tbls⟩, ⟨_, hn', fun j y v' e1 e2 e3 => ?_⟩, fun y c e => ?_, I.free, I.freeC, fun p hp => ?_, tracked ⟨oL, hoL, I.free⟩ hs, by simpa using I.len⟩ ⟨_, hs, .inl rfl⟩
  ·exact (hs.2 b (Nat.ne_of_lt (Nat.lt_of_lt_of_le (Heap.lt_size e) I.ok.above))).trans (I.base.keep b o e n hb hx)
  ·obtain ⟨sl, e1⟩ := I.base.slot b o e n hb hx
   exact ⟨sl, (hs.2 b (Nat.ne_of_lt (Nat.lt_of_lt_of_le (Heap.lt_size e) I.ok.above))).trans e1⟩
  ·obtain ⟨o', e1⟩ := I.base.there b o e hx
   exact ⟨o', (hs.2 b (Nat.ne_of_lt (Nat.lt_of_lt_of_le (Heap.lt_size e) I.ok.above))).trans e1⟩
  ·by_cases hj : j = i
   ·subst hj
    rw [hi] at e1; cases e1
    rw [List.getElem?_set_self hiσ] at e2
    cases e2
    exact ⟨u, r, .inl ⟨hk, by simp⟩⟩
   ·rw [List.getElem?_set_ne (Ne.symm hj)] at e2
    obtain ⟨u', r', q⟩ := hl j y v' e1 e2 e3
    refine ⟨u', r', ?_⟩
    rcases q with ⟨k, e⟩ | ⟨k, c, e, z⟩
    ·refine .inl ⟨k, ?_⟩
     have : y ≠ x := fun e => hj (nodup_ix hN e1 (e ▸ hi))
     simp [this, e]
    ·exact .inr ⟨k, c, e, z.sameBut hs (cne y c e)⟩
  ·obtain ⟨w', z⟩ := I.cell y c e
   exact ⟨w', z.sameBut hs (cne y c e)⟩
  ·obtain ⟨e, n, ne, nf, d⟩ := I.pin p hp
   exact ⟨(hs.2 p.1 ne).trans e, n, ne, nf, d⟩
 ·have hfn : X.fn x = true := by
   rcases hf with z | z
   ·exact z
   ·rw [z] at hk; cases hk
  obtain ⟨c, hc⟩ := I.ok.has x (.inl hk)
  obtain ⟨w', z⟩ := I.cell x c hc
  refine wpAny_storeName_cell I.ok.kind hk hc z (fun h' hc' hs => ?_)
  obtain ⟨oc, hoc, hocd⟩ := id z
  refine h { s with heap := h' } ⟨I.ok, I.os, I.bare, ⟨fun b o e n hb hx => ?_, fun b o e n hb hx => ?_, I.base.free, fun b o e hx => ?_, I.base.tups, I.base.frzs, I.base.tbls⟩, ⟨m, hn.sameBut hs (Ne.symm (cne x c hc)), fun j y v' e1 e2 e3 => ?_⟩, fun y c' e => ?_, I.free, I.freeC, fun p hp => ?_, tracked ⟨oc, hoc, I.freeC x c hc⟩ hs, by simpa using I.len⟩ ⟨c, hs, .inr hc⟩
  ·exact (hs.2 b (Nat.ne_of_lt (Nat.lt_of_lt_of_le (Heap.lt_size e) (I.ok.cab x c hfn hc)))).trans (I.base.keep b o e n hb hx)
  ·obtain ⟨sl, e1⟩ := I.base.slot b o e n hb hx
   exact ⟨sl, (hs.2 b (Nat.ne_of_lt (Nat.lt_of_lt_of_le (Heap.lt_size e) (I.ok.cab x c hfn hc)))).trans e1⟩
  ·obtain ⟨o', e1⟩ := I.base.there b o e hx
   exact ⟨o', (hs.2 b (Nat.ne_of_lt (Nat.lt_of_lt_of_le (Heap.lt_size e) (I.ok.cab x c hfn hc)))).trans e1⟩
  ·by_cases hj : j = i
   ·subst hj
    rw [hi] at e1; cases e1
    rw [List.getElem?_set_self hiσ] at e2
    cases e2
    exact ⟨u, r, .inr ⟨.inl hk, c, hc, hc'⟩⟩
   ·rw [List.getElem?_set_ne (Ne.symm hj)] at e2
    obtain ⟨u', r', q⟩ := hl j y v' e1 e2 e3
    refine ⟨u', r', ?_⟩
    rcases q with q | ⟨k, c', e, z'⟩
    ·exact .inl q
    ·refine .inr ⟨k, c', e, z'.sameBut hs ?_⟩
     rintro rfl
     exact hj (nodup_ix hN e1 (I.ok.inj _ _ _ e hc ▸ hi))
  ·by_cases hcc : c' = c
   ·subst hcc; exact ⟨_, hc'⟩
   ·obtain ⟨w2, z2⟩ := I.cell y c' e
    exact ⟨w2, z2.sameBut hs hcc⟩
  ·obtain ⟨e, n, ne, nf, d⟩ := I.pin p hp
   refine ⟨(hs.2 p.1 ?_).trans e, n, ne, nf, d⟩
   intro q
   rw [q, hoc] at e
   have q' : oc = p.2 := Option.some.inj e
   exact d w' (by rw [← q']; exact hocd)
theorem store_ok {M : Model} {A : Around} {E : Value → Shared → Prop} {i : Nat} {x : Str} {v : V} {u : Value} {Q : Unit → Shared → Prop} (I : Inv X pins σ H s) (hN : X.N.Nodup) (hi : X.N[i]? = some x) (hx : Loc X.env.scope x) (r : RelV v u)
  (h : ∀ s', Inv X pins (σ.set i (some v)) H s' → Q () s') (hf : X.fn x = true ∨ X.env.scope.names.lookup x = some .local := by first | exact .inl rfl | exact .inr rfl | assumption) : wpAny M A (storeName X.env x u) Q E s :=
 store_ok2 I hN hi hx r (fun s' I' _ => h s' I') hf
theorem Inv.call' {s' : Shared} {ch : List Addr} (I : Inv X pins σ H s) (ho : s'.os = s.os) (u : Un (frs X.stack) ch H H' s.heap s'.heap) (hok : HOk X.prog X.w H' s'.heap) (hg : AllBare s'.gens)
  (hch : ∀ b ∈ ch, (b ∈ X.ex ∨ X.s₀.heap.objs.size ≤ b) ∧ b ≠ X.env.locals ∧ (∀ x c, X.env.cells.lookup x = some c → c ≠ b) ∧ ∀ p ∈ X.pn ++ pins, p.1 ≠ b) : Inv X pins σ H' s' := by
 obtain ⟨h', g', d', t', o'⟩ := s'
 have e : o' = s.os := ho
 subst e
 exact I.call (g' := g') (t' := t') (d' := d') u hok hg hch
end
noncomputable abbrev XK := Value → Option Addr → Hp → Prop
noncomputable abbrev St := List (Option V)
noncomputable abbrev VK := V → Hp → Prop
noncomputable abbrev TE := St → Hp → VK → Prop
noncomputable abbrev TT := St → Hp → (Bool → Hp → Prop) → Prop
noncomputable abbrev TA := St → Hp → (List V → Hp → Prop) → Prop
structure Ends where
 nx : St → Hp → Prop
 rt : VK
 bk : St → Hp → Prop := fun _ _ => False
 ct : St → Hp → Prop := fun _ _ => False
noncomputable abbrev TS := Ends → St → Hp → Prop
noncomputable def EP (X : Cx) (pins : List (Addr × Obj)) (σ : St) (Q : VK) (u : Value) (s' : Shared) : Prop := ∃ v H', Inv X pins σ H' s' ∧ RelV v u ∧ Q v H'
noncomputable def TP (X : Cx) (pins : List (Addr × Obj)) (σ : St) (Q : Bool → Hp → Prop) (b : Bool) (s' : Shared) : Prop := ∃ H', Inv X pins σ H' s' ∧ Q b H'
noncomputable def AP (X : Cx) (pins : List (Addr × Obj)) (σ : St) (Q : List V → Hp → Prop) (us : List Value) (s' : Shared) : Prop := ∃ vs H', Inv X pins σ H' s' ∧ Vals vs us ∧ Q vs H'
noncomputable def SP (X : Cx) (pins : List (Addr × Obj)) (D : Ends) (f : Flow) (s' : Shared) : Prop :=
 match f with
 | .next => ∃ σ' H', Inv X pins σ' H' s' ∧ D.nx σ' H'
 | .brk => ∃ σ' H', Inv X pins σ' H' s' ∧ D.bk σ' H'
 | .cont => ∃ σ' H', Inv X pins σ' H' s' ∧ D.ct σ' H'
 | .ret u => ∃ v σ' H', Inv X pins σ' H' s' ∧ RelV v u ∧ D.rt v H'
noncomputable def PE (X : Cx) (e : Expr) (t : TE) : Prop :=
 ∀ (pins : List (Addr × Obj)) (s : Shared) (σ : St) (H : Hp) (Q : VK), Inv X pins σ H s → t σ H Q → wpAny (model X.prog X.w) X.A (eval e X.env) (EP X pins σ Q) X.xe s
noncomputable def PT (X : Cx) (e : Expr) (t : TT) : Prop :=
 ∀ (pins : List (Addr × Obj)) (s : Shared) (σ : St) (H : Hp) (Q : Bool → Hp → Prop), Inv X pins σ H s → t σ H Q → wpAny (model X.prog X.w) X.A (isTrue e X.env (eval e X.env)) (TP X pins σ Q) X.xe s
noncomputable def PW (X : Cx) (e : Expr) (t : TT) : Prop :=
 ∀ (whole : Sem Value) (pins : List (Addr × Obj)) (s : Shared) (σ : St) (H : Hp) (Q : Bool → Hp → Prop), Inv X pins σ H s → t σ H Q → wpAny (model X.prog X.w) X.A (isTrue e X.env whole) (TP X pins σ Q) X.xe s
theorem PW.pt {X : Cx} {e : Expr} {t : TT} (h : PW X e t) : PT X e t := h _
noncomputable def PA (X : Cx) (es : List Expr) (t : TA) : Prop :=
 ∀ (pos : Pos) (pins : List (Addr × Obj)) (s : Shared) (σ : St) (H : Hp) (Q : List V → Hp → Prop), Inv X pins σ H s → t σ H Q → wpAny (model X.prog X.w) X.A (spliced (backTo pos (starEach es X.env))) (AP X pins σ Q) X.xe s
noncomputable def PS (X : Cx) (st : Stmt) (t : TS) : Prop :=
 ∀ (pins : List (Addr × Obj)) (s : Shared) (σ : St) (H : Hp) (D : Ends), Inv X pins σ H s → t D σ H → wpAny (model X.prog X.w) X.A (exec st X.env) (SP X pins D) X.xe s
noncomputable def PSs (X : Cx) (st : List Stmt) (t : TS) : Prop :=
 ∀ (pins : List (Addr × Obj)) (s : Shared) (σ : St) (H : Hp) (D : Ends), Inv X pins σ H s → t D σ H → wpAny (model X.prog X.w) X.A (execs st X.env) (SP X pins D) X.xe s
theorem thn {α : Type} {t : Sem α} {Q Q' : α → Shared → Prop} {M : Model} {A : Around} {E : Value → Shared → Prop} {s : Shared} (h : wpAny M A t Q E s) (hQ : ∀ a s, Q a s → Q' a s) : wpAny M A t Q' E s := wpAny_mono h hQ fun _ _ x => x
end L2
namespace L2
open PySem PySem.Spec PyProof.Rows
section
variable {X : Cx}
theorem bin {a b : Expr} {ta tb : TE} (ha : PE X a ta) (hb : PE X b tb) {pins : List (Addr × Obj)} {s : Shared} {σ : St} {H : Hp} {R : V → V → Hp → Prop} (I : Inv X pins σ H s) (h : ta σ H fun x H1 => tb σ H1 fun y H2 => R x y H2)
  {α : Type} {Q : α → Shared → Prop} {f : Value → Value → Sem α}
  (hf : ∀ v u s2 x y H2, Inv X pins σ H2 s2 → RelV x v → RelV y u → R x y H2 → wpAny (model X.prog X.w) X.A (f v u) Q X.xe s2) :
  wpAny (model X.prog X.w) X.A (eval a X.env) (fun v s₁ => wpAny (model X.prog X.w) X.A (eval b X.env) (fun u s₂ => wpAny (model X.prog X.w) X.A (f v u) Q X.xe s₂) X.xe s₁) X.xe s := by
 refine thn (ha pins s σ H _ I h) fun v s1 hX11_ => ?_
 obtain ⟨x, H1, I1, r1, q1⟩ := hX11_
 refine thn (hb pins s1 σ H1 _ I1 q1) fun u s2 hX21_ => ?_
 obtain ⟨y, H2, I2, r2, q2⟩ := hX21_
 exact hf v u s2 x y H2 I2 r1 r2 q2
noncomputable def tVar (i : Nat) : TE := fun σ H Q => ∃ v, σ[i]? = some (some v) ∧ Q v H
noncomputable def tC (v : V) : TE := fun _ H Q => Q v H
theorem pe_var {i : Nat} {x : Str} {pos : Pos} (hN : X.N[i]? = some x) (hv : Vis X.env.scope x) (hd : (x == ("__debug__" : Str)) = false := by decide) (hcd : (x == ("__classdict__" : Str)) = false := by decide) : PE X (.Name x pos) (tVar i) := by
 intro pins s σ H Q I h
 obtain ⟨v, e, h⟩ := h
 obtain ⟨m, hn, hl⟩ := I.loc
 obtain ⟨u, r, l⟩ := hl i x v hN e hv
 have fin : EP X pins σ Q u s := ⟨v, H, I, r, h⟩
 rcases l with ⟨hk, hm⟩ | ⟨hk, c, hc, hcell⟩
 ·exact wpAny_Name (wpAny_loadName_local I.ok.kind hk hn hm fin) hd
 ·rcases hk with hk | hk
  ·exact wpAny_Name (wpAny_loadName_cell I.ok.kind hk hc hcell fin) hd
  ·exact wpAny_Name (wpAny_loadName_free I.ok.kind hk hc hcell fin hcd) hd
theorem pe_int {i j pos} : PE X (.Constant (.int i) j pos) (tC (.int i)) := fun _ _ _ H _ I h => wpAny_Constant_int ⟨.int i, H, I.tok _, ⟨_, rfl⟩, h⟩
theorem pe_bl {b j pos} : PE X (.Constant (.bool b) j pos) (tC (.bl b)) := fun _ _ _ H _ I h => Constant_bool ⟨.bl b, H, I, rfl, h⟩
theorem pe_non {j pos} : PE X (.Constant .none j pos) (tC .non) := fun _ _ _ H _ I h => Constant_none ⟨.non, H, I, rfl, h⟩
theorem pe_str {x j pos} : PE X (.Constant (.str x) j pos) (tC (.str x)) := fun _ _ _ H _ I h => Calls.Constant_str ⟨.str x, H, I.tok _, ⟨_, rfl⟩, h⟩
noncomputable def Gl (X : Cx) (x : Str) : Prop := X.env.kindOf x = some .globalImplicit
theorem ld_glob {E : Value → Shared → Prop} {pins : List (Addr × Obj)} {s : Shared} {σ : St} {H : Hp} {x : Str} {u : Value} {pos : Pos} {Q : Value → Shared → Prop} (I : Inv X pins σ H s) (hg : Gl X x) (hm : X.mg x = some u) (h : Q u s)
  (hd : (x == ("__debug__" : Str)) = false := by decide) : wpAny (model X.prog X.w) X.A (eval (.Name x pos) X.env) Q E s :=
 Calls.Name_function_global I.ok.kind hg (Calls.loadGlobal_global (by rw [I.ok.glob]; exact I.mod.glob.keeps I.bk) hm h) hd
theorem ld_blt {E : Value → Shared → Prop} {pins : List (Addr × Obj)} {s : Shared} {σ : St} {H : Hp} {x : Str} {u : Value} {pos : Pos} {Q : Value → Shared → Prop} (I : Inv X pins σ H s) (hg : Gl X x) (hm : X.mg x = none) (hv : bootBuiltins x = some u) (h : Q u s)
  (hn : x ≠ "__name__" := by decide) (hd : (x == ("__debug__" : Str)) = false := by decide) : wpAny (model X.prog X.w) X.A (eval (.Name x pos) X.env) Q E s := by
 obtain ⟨mb, h1, h2⟩ := I.mod.blt
 exact Calls.Name_function_global I.ok.kind hg (Calls.loadGlobal_builtin (by rw [I.ok.glob]; exact I.mod.glob.keeps I.bk) hm (by rw [I.ok.blt]; exact h1.keeps I.bk) ((h2 x hn).trans hv) h) hd
theorem pe_glob {x : Str} {v : V} {u : Value} {pos : Pos} (hg : Gl X x) (hm : X.mg x = some u) (r : RelV v u) (hd : (x == ("__debug__" : Str)) = false := by decide) : PE X (.Name x pos) (tC v) :=
 fun _ _ _ H _ I h => ld_glob I hg hm ⟨v, H, I, r, h⟩ hd
theorem pe_bltn {x : Str} {v : V} {u : Value} {pos : Pos} (hg : Gl X x) (hm : X.mg x = none) (hv : bootBuiltins x = some u) (r : RelV v u) (hn : x ≠ "__name__" := by decide) (hd : (x == ("__debug__" : Str)) = false := by decide) : PE X (.Name x pos) (tC v) :=
 fun _ _ _ H _ I h => ld_blt I hg hm hv ⟨v, H, I, r, h⟩ hn hd
variable {a b : Expr} {ta tb : TE} {pos : Pos}
noncomputable def PC (X : Cx) (op : CmpOp) (a b : Expr) (t : TE) : Prop :=
 ∀ (pins : List (Addr × Obj)) (s : Shared) (σ : St) (H : Hp) (Q : VK), Inv X pins σ H s → t σ H Q →
  wpAny (model X.prog X.w) X.A (eval a X.env) (fun v s₁ => wpAny (model X.prog X.w) X.A (eval b X.env) (fun u s₂ => wpAny (model X.prog X.w) X.A (compareOp op v u) (EP X pins σ Q) X.xe s₂) X.xe s₁) X.xe s
theorem nobehind (b : Expr) {op : CmpOp} (h : op ≠ .In) (h2 : op ≠ .NotIn) : behindInMarks op b = false := by
 have e1 : (op == CmpOp.In) = false := by cases op <;> first | rfl | exact absurd rfl h
 have e2 : (op == CmpOp.NotIn) = false := by cases op <;> first | rfl | exact absurd rfl h2
 cases b <;> simp [behindInMarks, e1, e2]
noncomputable def tB (t : TE) : TT := fun σ H Q => t σ H fun x H1 => ∃ c, x = .bl c ∧ Q c H1
theorem pt_cmp {op : CmpOp} {t : TE} (h : PC X op a b t) (h1 : behindInMarks op b = false := by first | exact nobehind _ (by decide) (by decide) | rfl) : PT X (.Compare a [op] [b] pos) (tB t) := by
 intro pins s σ H Q I hw
 refine wpAny_isTrue_Compare1 (thn (h pins s σ H _ I hw) fun v s1 h1 => thn h1 fun u s2 h2 => thn h2 fun c s3 hX11_ => ?_) h1
 obtain ⟨x, H1, I1, r1, q1⟩ := hX11_
 obtain ⟨d, rfl, q⟩ := q1
 cases r1
 exact wpAny_truthy_bool ⟨H1, I1, q⟩
theorem pt_val {e : Expr} {t : TE} (h : PE X e t) (he : ∀ whole, isTrue e X.env whole = (do let v ← whole; standAt e.pos; holding [v] (truthy v)) := by intro _; rfl) : PT X e (tB t) := by
 intro pins s σ H Q I hw
 refine isTrue_plain (thn (h pins s σ H _ I hw) fun v s1 hX11_ => ?_) (he _)
 obtain ⟨x, H1, I1, r1, q1⟩ := hX11_
 obtain ⟨d, rfl, q⟩ := q1
 cases r1
 exact wpAny_truthy_bool ⟨H1, I1, q⟩
variable {tA tB' : TT} {rest : List Expr}
noncomputable def tAnd (t u : TT) : TT := fun σ H Q => t σ H fun c H1 => if c = true then u σ H1 Q else Q false H1
noncomputable def tOr (t u : TT) : TT := fun σ H Q => t σ H fun c H1 => if c = true then Q true H1 else u σ H1 Q
noncomputable def tNot (t : TT) : TT := fun σ H Q => t σ H fun c H1 => Q (!c) H1
theorem pw_and1 (ha : PT X a tA) : PW X (.BoolOp .And [a] pos) tA := by
 intro wh pins s σ H Q I h
 refine isTrue_and (thn (ha pins s σ H Q I h) fun c s1 e => ?_)
 cases c with
 | true => exact isTrue_and_nil e
 | false => exact e
theorem pw_or1 (ha : PT X a tA) : PW X (.BoolOp .Or [a] pos) tA := by
 intro wh pins s σ H Q I h
 refine isTrue_or (thn (ha pins s σ H Q I h) fun c s1 e => ?_)
 cases c with
 | false => exact isTrue_or_nil e
 | true => exact e
theorem pw_and (ha : PT X a tA) (hb : PW X (.BoolOp .And (b :: rest) pos) tB') : PW X (.BoolOp .And (a :: b :: rest) pos) (tAnd tA tB') := by
 intro wh pins s σ H Q I h
 refine isTrue_and (thn (ha pins s σ H _ I h) fun c s1 hX11_ => ?_)
 obtain ⟨H1, I1, q1⟩ := hX11_
 cases c with
 | true => exact hb wh pins s1 σ H1 Q I1 q1
 | false => exact ⟨H1, I1, q1⟩
theorem pw_or (ha : PT X a tA) (hb : PW X (.BoolOp .Or (b :: rest) pos) tB') : PW X (.BoolOp .Or (a :: b :: rest) pos) (tOr tA tB') := by
 intro wh pins s σ H Q I h
 refine isTrue_or (thn (ha pins s σ H _ I h) fun c s1 hX11_ => ?_)
 obtain ⟨H1, I1, q1⟩ := hX11_
 cases c with
 | true => exact ⟨H1, I1, q1⟩
 | false => exact hb wh pins s1 σ H1 Q I1 q1
theorem pt_not (ha : PT X a tA) : PT X (.UnaryOp .Not a pos) (tNot tA) := by
 intro pins s σ H Q I h
 exact isTrue_not (ha pins s σ H (fun c H1 => Q (!c) H1) I h)
noncomputable def tAndV (ta tb : TE) : TE := fun σ H Q => ta σ H fun x H1 => ∃ c, x = .bl c ∧ if c = true then tb σ H1 Q else Q (.bl false) H1
noncomputable def tOrV (ta tb : TE) : TE := fun σ H Q => ta σ H fun x H1 => ∃ c, x = .bl c ∧ if c = true then Q (.bl true) H1 else tb σ H1 Q
noncomputable def tNotV (ta : TE) : TE := fun σ H Q => ta σ H fun x H1 => ∃ c, x = .bl c ∧ Q (.bl (!c)) H1
theorem pe_one {op} {t : TE} (h : PE X a t) : PE X (.BoolOp op [a] pos) t := fun pins s σ H Q I hw => BoolOp_one (h pins s σ H Q I hw)
theorem pe_and (ha : PE X a ta) (hb : PE X (.BoolOp .And (b :: rest) pos) tb) : PE X (.BoolOp .And (a :: b :: rest) pos) (tAndV ta tb) := by
 intro pins s σ H Q I h
 refine BoolOp_and (thn (ha pins s σ H _ I h) fun v s1 hX11_ => ?_)
 obtain ⟨x, H1, I1, r1, q1⟩ := hX11_
 obtain ⟨c, rfl, q1⟩ := q1
 cases r1
 refine wpAny_truthy_bool ?_
 cases c with
 | true => exact hb pins s1 σ H1 Q I1 q1
 | false => exact ⟨.bl false, H1, I1, rfl, q1⟩
theorem pe_or (ha : PE X a ta) (hb : PE X (.BoolOp .Or (b :: rest) pos) tb) : PE X (.BoolOp .Or (a :: b :: rest) pos) (tOrV ta tb) := by
 intro pins s σ H Q I h
 refine BoolOp_or (thn (ha pins s σ H _ I h) fun v s1 hX11_ => ?_)
 obtain ⟨x, H1, I1, r1, q1⟩ := hX11_
 obtain ⟨c, rfl, q1⟩ := q1
 cases r1
 refine wpAny_truthy_bool ?_
 cases c with
 | false => exact hb pins s1 σ H1 Q I1 q1
 | true => exact ⟨.bl true, H1, I1, rfl, q1⟩
theorem pe_not (ha : PE X a ta) : PE X (.UnaryOp .Not a pos) (tNotV ta) := by
 intro pins s σ H Q I h
 refine UnaryOp_ (thn (ha pins s σ H _ I h) fun v s1 hX11_ => ?_)
 obtain ⟨x, H1, I1, r1, q1⟩ := hX11_
 obtain ⟨c, rfl, q1⟩ := q1
 cases r1
 exact not_of (wpAny_truthy_bool ⟨.bl (!c), H1, I1, rfl, q1⟩)
end
end L2
namespace L2
open PySem PySem.Spec PyProof.Rows
noncomputable def SqL (K : PySem.W.Frag) (H : Hp) (a : Addr) (xs : List V) : Prop :=
 Rd H a (.lst xs) ∨
  ∃ (o : Obj) (its : Array Value) (n : Nat), K.lookup a = some o ∧ o.cls = .type "list" ∧ o.dict = none ∧ o.data = .seq its n ∧ its.size ≤ sizeLine ∧ Vals xs its.toList
noncomputable def SqT (K : PySem.W.Frag) (H : Hp) (a : Addr) (xs : List V) : Prop :=
 Rd H a (.tup xs) ∨
  ∃ (o : Obj) (its : Array Value) (n : Nat), K.lookup a = some o ∧ o.cls = .type "tuple" ∧ o.data = .seq its n ∧ its.size ≤ sizeLine ∧ Vals xs its.toList
noncomputable def absV : Value → Option V
 | .none => some .non
 | .bool b => some (.bl b)
 | .int i _ => some (.int i)
 | .str x _ => some (.str x)
 | .bytes b _ => some (.byt b)
 | .float b _ => some (.flt b)
 | .ref a => some (.ref a)
 | .type n => some (.ty n)
 | _ => none
theorem RelV.abs {x : V} {u : Value} (r : RelV x u) : absV u = some x := by
 cases x with
 | non => cases r; rfl
 | bl _ => cases r; rfl
 | int _ => obtain ⟨t, rfl⟩ := r; rfl
 | str _ => obtain ⟨t, rfl⟩ := r; rfl
 | byt _ => obtain ⟨t, rfl⟩ := r; rfl
 | flt _ => obtain ⟨t, rfl⟩ := r; rfl
 | ref _ => cases r; rfl
 | ty _ => cases r; rfl
theorem RelV.inj {x y : V} {u : Value} (r : RelV x u) (q : RelV y u) : x = y := Option.some.inj (r.abs.symm.trans q.abs)
theorem Vals.inj : ∀ {xs ys : List V} {us : List Value}, Vals xs us → Vals ys us → xs = ys
 | _, _, _, .nil, .nil => rfl
 | _, _, _, .cons r t, .cons r' t' => by rw [r.inj r', Vals.inj t t']
section
variable {X : Cx} {pins : List (Addr × Obj)} {σ : St} {H : Hp} {s : Shared} {a : Addr} {xs ys : List V}
theorem SqL.of {K : PySem.W.Frag} (h : H a = some (.lst xs)) : SqL K H a xs := .inl (.inl h)
theorem SqT.of {K : PySem.W.Frag} (h : H a = some (.tup xs)) : SqT K H a xs := .inl (.inl h)
theorem Inv.list (I : Inv X pins σ H s) (h : SqL X.K H a xs) : ∃ its : List Value, Vals xs its ∧ PlainL s.heap a its.toArray ∧ xs.length ≤ sizeLine := by
 rcases h with h | ⟨o, its, n, hk, hc, hd, hs, hz, r⟩
 ·obtain ⟨z, its, n, r, e⟩ := h.ok I.hok
  exact ⟨its, r, ⟨_, n, e, rfl, rfl, rfl⟩, z⟩
 ·refine ⟨its.toList, r, ⟨o, n, I.kIn a o hk, hc, hd, by simpa using hs⟩, ?_⟩
  have e := r.length
  simp only [Array.length_toList] at e
  lia
theorem Inv.tuple (I : Inv X pins σ H s) (h : SqT X.K H a xs) : ∃ its : List Value, Vals xs its ∧ IsTup s.heap a its.toArray ∧ xs.length ≤ sizeLine := by
 rcases h with h | ⟨o, its, n, hk, hc, hs, hz, r⟩
 ·obtain ⟨z, its, r, p⟩ := h.ok I.hok
  exact ⟨its, r, p, z⟩
 ·refine ⟨its.toList, r, ⟨o, I.kIn a o hk, hc, n, by simpa using hs⟩, ?_⟩
  have e := r.length
  simp only [Array.length_toList] at e
  lia
theorem Inv.list_inj (I : Inv X pins σ H s) (h : SqL X.K H a xs) (h' : SqL X.K H a ys) : xs = ys := by
 obtain ⟨its, r, ⟨o, n, e, _, _, d⟩, _⟩ := I.list h
 obtain ⟨its', r', ⟨o', n', e', _, _, d'⟩, _⟩ := I.list h'
 rw [e] at e'; cases e'
 rw [d] at d'
 injection d' with d1 _
 have : its = its' := by simpa using congrArg Array.toList d1
 subst this
 exact r.inj r'
theorem Inv.tuple_inj (I : Inv X pins σ H s) (h : SqT X.K H a xs) (h' : SqT X.K H a ys) : xs = ys := by
 obtain ⟨its, r, ⟨o, e, _, n, d⟩, _⟩ := I.tuple h
 obtain ⟨its', r', ⟨o', e', _, n', d'⟩, _⟩ := I.tuple h'
 rw [e] at e'; cases e'
 rw [d] at d'
 injection d' with d1 _
 have : its = its' := by simpa using congrArg Array.toList d1
 subst this
 exact r.inj r'
end
noncomputable abbrev Cx.wish (X : Cx) (E : Value → Shared → Prop) : Cx := { X with xe := E }
noncomputable abbrev Cx.nox (X : Cx) : Cx := X.wish fun _ _ => False
theorem Cx.Ok.wish {X : Cx} (ok : X.Ok) (E : Value → Shared → Prop) : (X.wish E).Ok :=
 ⟨ok.mod, ok.kind, ok.glob, ok.blt, ok.above, ok.inj, ok.has, ok.cab, ok.hd, ok.frames, ok.stk, ok.exf, ok.bs, ok.bsz, ok.noex, ok.exfs, ok.funs, ok.frf⟩
theorem Cx.Ok.unwish {X : Cx} {E : Value → Shared → Prop} (ok : (X.wish E).Ok) : X.Ok :=
 ⟨ok.mod, ok.kind, ok.glob, ok.blt, ok.above, ok.inj, ok.has, ok.cab, ok.hd, ok.frames, ok.stk, ok.exf, ok.bs, ok.bsz, ok.noex, ok.exfs, ok.funs, ok.frf⟩
section
variable {X : Cx} {pins : List (Addr × Obj)} {σ : St} {H : Hp} {s : Shared} {E : Value → Shared → Prop}
theorem Inv.wish (I : Inv X pins σ H s) (E : Value → Shared → Prop) : Inv (X.wish E) pins σ H s := ⟨I.ok.wish E, I.os, I.bare, I.base, I.loc, I.cell, I.free, I.freeC, I.pin, I.hok, I.len⟩
theorem Inv.unwish (I : Inv (X.wish E) pins σ H s) : Inv X pins σ H s := ⟨I.ok.unwish, I.os, I.bare, I.base, I.loc, I.cell, I.free, I.freeC, I.pin, I.hok, I.len⟩
theorem SP.unwish {D : Ends} {f : Flow} {s' : Shared} (h : SP (X.wish E) pins D f s') : SP X pins D f s' := by
 cases f with
 | next => obtain ⟨σ', H', I, q⟩ := h; exact ⟨σ', H', I.unwish, q⟩
 | brk => obtain ⟨σ', H', I, q⟩ := h; exact ⟨σ', H', I.unwish, q⟩
 | cont => obtain ⟨σ', H', I, q⟩ := h; exact ⟨σ', H', I.unwish, q⟩
 | ret u => obtain ⟨v, σ', H', I, r, q⟩ := h; exact ⟨v, σ', H', I.unwish, r, q⟩
theorem PSs.nox {st : List Stmt} {t : TS} (h : PSs X.nox st t) : PSs X st t := fun pins s σ H D I hw =>
 wpAny_mono (h pins s σ H D (I.wish _) hw) (fun _ _ q => q.unwish) fun _ _ z => False.elim z
end
section
variable {X : Cx} {st : Stmt} {rest : List Stmt} {t u : TS} {e : Expr} {te : TE} {pos : Pos}
noncomputable def tNext : TS := fun D σ H => D.nx σ H
noncomputable def tSeq (t u : TS) : TS := fun D σ H => t { D with nx := u D } σ H
theorem pss_nil : PSs X [] tNext := fun _ _ σ H _ I h => wpAny_execs_nil ⟨σ, H, I, h⟩
theorem pss_cons (h1 : PS X st t) (h2 : PSs X rest u) : PSs X (st :: rest) (tSeq t u) := by
 intro pins s σ H D I h
 refine wpAny_execs_cons (thn (h1 pins s σ H { D with nx := u D } I h) fun f s1 q => ?_)
 cases f with
 | next =>
  obtain ⟨σ', H', I', q⟩ := q
  exact h2 pins s1 σ' H' D I' q
 | ret v => exact q
 | brk => exact q
 | cont => exact q
theorem pss_one (h1 : PS X st t) : PSs X [st] t := by
 intro pins s σ H D I h
 refine wpAny_execs_cons (thn (h1 pins s σ H D I h) fun f s1 q => ?_)
 cases f with
 | next => exact wpAny_execs_nil q
 | ret v => exact q
 | brk => exact q
 | cont => exact q
theorem Inv.quiet {pins : List (Addr × Obj)} {σ : St} {H : Hp} {s : Shared} (I : Inv X pins σ H s) : interactive X.env = false := by simp [interactive, I.ok.kind]
noncomputable def tDrop (te : TE) : TS := fun D σ H => te σ H fun _ H1 => D.nx σ H1
theorem ps_expr (he : PE X e te) (hs : swapsWith e none pos.line X.env = pure false := by rfl) : PS X (.Expr e pos) (tDrop te) := by
 intro pins s σ H D I h
 exact wpAny_Expr_any (thn (he pins s σ H _ I h) fun v s1 ⟨x, H1, I1, r1, q1⟩ => ⟨σ, H1, I1, q1⟩) I.quiet hs
noncomputable def tRet (te : TE) : TS := fun D σ H => te σ H D.rt
theorem ps_ret (he : PE X e te) : PS X (.Return (some e) pos) (tRet te) := by
 intro pins s σ H D I h
 exact wpAny_Return_some (thn (he pins s σ H _ I h) fun v s1 ⟨x, H1, I1, r1, q1⟩ => ⟨x, σ, H1, I1, r1, q1⟩)
noncomputable def tIfS (c : TT) (t u : TS) : TS := fun D σ H => c σ H fun b H1 => if b = true then t D σ H1 else u D σ H1
theorem ps_if {c : Expr} {a b : List Stmt} {tc : TT} (hc : PT X c tc) (ha : PSs X a t) (hb : PSs X b u) : PS X (.If c a b pos) (tIfS tc t u) := by
 intro pins s σ H D I h
 refine wpAny_If (thn (hc pins s σ H _ I h) fun d s1 hX11_ => ?_)
 obtain ⟨H1, I1, q1⟩ := hX11_
 cases d with
 | true => exact ha pins s1 σ H1 D I1 q1
 | false => exact hb pins s1 σ H1 D I1 q1
noncomputable def tNever : TS := fun _ _ _ => False
theorem ps_never : PS X st tNever := fun _ _ _ _ _ _ h => h.elim
end
noncomputable abbrev TG := V → St → Hp → (St → Hp → Prop) → Prop
noncomputable abbrev TGs := List V → St → Hp → (St → Hp → Prop) → Prop
noncomputable def PG (X : Cx) (target : Expr) (t : TG) : Prop :=
 ∀ (pins : List (Addr × Obj)) (s : Shared) (σ : St) (H : Hp) (v : V) (u : Value) (Q : St → Hp → Prop), Inv X pins σ H s → RelV v u → t v σ H Q →
  wpAny (model X.prog X.w) X.A (assign target X.env u) (fun _ s' => ∃ σ' H', Inv X pins σ' H' s' ∧ Q σ' H') X.xe s
noncomputable def PGs (X : Cx) (ts : List Expr) (t : TGs) : Prop :=
 ∀ (pins : List (Addr × Obj)) (s : Shared) (σ : St) (H : Hp) (vs : List V) (us : List Value) (Q : St → Hp → Prop), Inv X pins σ H s → Vals vs us → t vs σ H Q →
  wpAny (model X.prog X.w) X.A (assignInOrder ((assignEach ts X.env).map (·.2)) us) (fun _ s' => ∃ σ' H', Inv X pins σ' H' s' ∧ Q σ' H') X.xe s
noncomputable abbrev TSet := V → V → V → Hp → (Hp → Prop) → Prop
noncomputable def PSet (X : Cx) (t : TSet) : Prop :=
 ∀ (pins : List (Addr × Obj)) (s : Shared) (σ : St) (H : Hp) (o i v : V) (ov iv u : Value) (Q : Hp → Prop), Inv X pins σ H s → RelV o ov → RelV i iv → RelV v u → t o i v H Q →
  wpAny (model X.prog X.w) X.A (setItem ov iv u) (fun _ s' => ∃ H', Inv X pins σ H' s' ∧ Q H') X.xe s
section
variable {X : Cx} {pos : Pos}
noncomputable def gName (i : Nat) : TG := fun v σ H Q => Q (σ.set i (some v)) H
theorem pg_name {i : Nat} {x : Str} (hN : X.N.Nodup) (hi : X.N[i]? = some x) (hx : Loc X.env.scope x) (hf : X.fn x = true ∨ X.env.scope.names.lookup x = some .local := by first | exact .inl rfl | exact .inr rfl | assumption) : PG X (.Name x pos) (gName i) := by
 intro pins s σ H v u Q I r h
 exact wpAny_assign_Name (store_ok I hN hi hx r (fun s' I' => ⟨_, H, I', h⟩) hf)
noncomputable def gNil : TGs := fun vs σ H Q => vs = [] ∧ Q σ H
noncomputable def gCons (t : TG) (u : TGs) : TGs := fun vs σ H Q => ∃ v r, vs = v :: r ∧ t v σ H fun σ' H' => u r σ' H' Q
theorem pgs_nil : PGs X [] gNil := by
 intro pins s σ H vs us Q I r h
 obtain ⟨e, h⟩ := h
 subst e
 cases r
 exact assignInOrder_nil ⟨σ, H, I, h⟩
theorem pgs_cons {e : Expr} {es : List Expr} {t : TG} {u : TGs} (h1 : PG X e t) (h2 : PGs X es u)
  (hs : (assignEach (e :: es) X.env).map (·.2) = assign e X.env :: (assignEach es X.env).map (·.2) := by rfl) : PGs X (e :: es) (gCons t u) := by
 intro pins s σ H vs us Q I r h
 obtain ⟨v, vr, e1, h⟩ := h
 subst e1
 cases r with
 | cons r rr =>
  rw [hs]
  refine assignInOrder_cons (thn (h1 pins s σ H _ _ _ I r h) fun _ s1 hX11_ => ?_)
  obtain ⟨σ1, H1, I1, q1⟩ := hX11_
  exact h2 pins s1 σ1 H1 _ _ Q I1 rr q1
noncomputable def gTup (K : PySem.W.Frag) (n : Nat) (t : TGs) : TG := fun v σ H Q => ∃ a xs, v = .ref a ∧ SqT K H a xs ∧ xs.length = n ∧ t xs σ H Q
theorem pg_tup {es : List Expr} {k : Nat} {t : TGs} {n : Nat} (hc : X.calm = true) (h : PGs X es t)
  (hn : (assignEach es X.env).length = n := by rfl) (hst : (assignEach es X.env).findIdx? (·.1) = none := by rfl) : PG X (.Tuple es k pos) (gTup X.K n t) := by
 intro pins s σ H v u Q I r hw
 obtain ⟨a, xs, e1, hq, hl, hw⟩ := hw
 subst e1
 cases r
 obtain ⟨its, rv, ht, hz⟩ := I.tuple hq
 refine assign_Tuple_tuple (I.ok.hd hc) ht (by simp [hn, ← hl, rv.length]) hst fun h' hx => ?_
 have I1 : Inv X pins σ H { s with heap := h' } := I.kept (t' := s.toks) fun b o e => hx b o (Nat.ne_of_lt (Heap.lt_size e)) e
 exact h pins _ σ H xs _ Q I1 (by simpa using rv) hw
noncomputable def gSub (to ti : TE) (t : TSet) : TG := fun v σ H Q => to σ H fun o H1 => ti σ H1 fun i H2 => t o i v H2 fun H3 => Q σ H3
theorem pg_sub {o i : Expr} {to ti : TE} {t : TSet} (ho : PE X o to) (hi : PE X i ti) (hs : PSet X t)
  (ha : ∀ v, assign (.Subscript o i pos) X.env v = (do
   let ov ← holding [v] (eval o X.env)
   let iv ← holding [v, ov] (eval i X.env)
   standAt pos
   holding [v, ov, iv] (setItem ov iv v)
   release [v, ov, iv] []) := by intro _; rfl) : PG X (.Subscript o i pos) (gSub to ti t) := by
 intro pins s σ H v u Q I r h
 rw [ha]
 refine wpAny_bind (wpAny_holding (thn (ho pins s σ H _ I h) fun ov s1 hX11_ => ?_))
 obtain ⟨x, H1, I1, r1, q1⟩ := hX11_
 refine wpAny_bind (wpAny_holding (thn (hi pins s1 σ H1 _ I1 q1) fun iv s2 hX21_ => ?_))
 obtain ⟨y, H2, I2, r2, q2⟩ := hX21_
 refine wpAny_bind (wpAny_standAt (wpAny_bind (wpAny_holding (thn (hs pins s2 σ H2 x y v ov iv u _ I2 r1 r2 r q2) fun _ s3 hX31_ => ?_))))
 obtain ⟨H3, I3, q3⟩ := hX31_
 exact wpAny_release ⟨σ, H3, I3, q3⟩
noncomputable def tAsg (te : TE) (g : TG) : TS := fun D σ H => te σ H fun x H1 => g x σ H1 D.nx
theorem ps_asg {tg e : Expr} {te : TE} {g : TG} (he : PE X e te) (hg : PG X tg g) (hs : swapsWithSole [tg] e pos.line X.env = pure false := by rfl) (hw : swappedStores [tg] e X.env = pure none := by rfl)
  (h1 : (assignEach [tg] X.env).map (·.2) = [assign tg X.env] := by rfl) : PS X (.Assign [tg] e pos) (tAsg te g) := by
 intro pins s σ H D I h
 refine wpAny_Assign_stores (thn (he pins s σ H _ I h) fun v s1 hX11_ => ?_) hs hw
 obtain ⟨x, H1, I1, r1, q1⟩ := hX11_
 rw [h1]
 exact thn (hg pins s1 σ H1 x v _ I1 r1 q1) fun _ s2 q => q
theorem ps_set {i : Nat} {x : Str} {e : Expr} {te : TE} {pos' : Pos} (hN : X.N.Nodup) (hi : X.N[i]? = some x) (hx : Loc X.env.scope x) (he : PE X e te) (hs : swapsWith e (some (.Name x pos')) pos.line X.env = pure false := by rfl) (hf : X.fn x = true ∨ X.env.scope.names.lookup x = some .local := by first | exact .inl rfl | exact .inr rfl | assumption) :
  PS X (.Assign [.Name x pos'] e pos) (tAsg te (gName i)) := by
 intro pins s σ H D I h
 refine wpAny_Assign_Name (thn (he pins s σ H _ I h) fun v s1 hX11_ => ?_) hs
 obtain ⟨y, H1, I1, r1, q1⟩ := hX11_
 exact store_ok I1 hN hi hx r1 (fun s2 I2 => ⟨_, H1, I2, q1⟩) hf
end
section
variable {X : Cx} {pos : Pos}
end
structure It where
 go : Nat → Hp → Prop
 yld : Nat → Hp → V → Hp → Prop
 stop : Nat → Hp → Prop
noncomputable def FpOk (X : Cx) (pins : List (Addr × Obj)) (H : Hp) (b : Addr) : Prop :=
 H b = none ∧ b ≠ X.env.locals ∧ b ∉ X.fs ∧ (b ∈ X.ex ∨ X.s₀.heap.objs.size ≤ b) ∧ (∀ x c, X.env.cells.lookup x = some c → c ≠ b) ∧ ∀ p ∈ X.pn ++ pins, p.1 ≠ b
theorem Inv.fpOk {X : Cx} {pins : List (Addr × Obj)} {σ : St} {H H' : Hp} {s : Shared} {b : Addr} (I : Inv X pins σ H s) (hb : s.heap.objs.size ≤ b) (hn : H' b = none) : FpOk X pins H' b := by
 refine ⟨hn, Nat.ne_of_gt (Nat.lt_of_lt_of_le I.lt hb), I.nofs hb, .inr (Nat.le_trans I.sz hb), fun x c e z => ?_, fun p hp z => ?_⟩
 ·obtain ⟨v, q⟩ := I.cell x c e
  exact absurd (Nat.lt_of_lt_of_le q.lt (by rw [z]; exact hb)) (Nat.lt_irrefl _)
 ·exact absurd (Nat.lt_of_lt_of_le (Heap.lt_size (I.pin p hp).1) (by rw [z]; exact hb)) (Nat.lt_irrefl _)
structure Turn (P : Program) (w : World) (K : PySem.W.Frag) (tg : Expr) (J : It) (fp : List Addr) (it : Addr) (tn : Nat → Heap → Prop) : Prop where
 mem : it ∈ fp
 obj : ∀ i h, tn i h → ∀ b ∈ fp, ∃ o, h.get? b = some o ∧ ∀ v, o.data ≠ .cell v
 keep : ∀ i h h', tn i h → (∀ b ∈ fp, ∀ o, h.get? b = some o → h'.get? b = some o) → tn i h'
 item : ∀ (X : Cx), X.prog = P → X.w = w → X.K = K → X.calm = true → ∀ (i : Nat) (pins : List (Addr × Obj)) (s : Shared) (σ : St) (H : Hp) (E : Value → Shared → Prop), Inv X pins σ H s → (∀ b ∈ fp, FpOk X pins H b) → tn i s.heap → J.go i H →
  wpAny (model P w) X.A (pyNext (.ref it)) (fun r s1 => ∃ u, r = some u ∧
   wpAny (model P w) X.A (letOwnedTupleGo tg (.ref it) u) (fun _ s2 => ∃ x H', Inv X pins σ H' s2 ∧ RelV x u ∧ J.yld i H x H' ∧ tn (i + 1) s2.heap ∧ ∀ b ∈ fp, H' b = none) E s1) E s
 done : ∀ (X : Cx), X.prog = P → X.w = w → X.K = K → X.calm = true → ∀ (i : Nat) (pins : List (Addr × Obj)) (s : Shared) (σ : St) (H : Hp) (E : Value → Shared → Prop), Inv X pins σ H s → (∀ b ∈ fp, FpOk X pins H b) → tn i s.heap → J.stop i H →
  wpAny (model P w) X.A (pyNext (.ref it)) (fun r s1 => r = none ∧ Inv X pins σ H s1) E s
 self : ∀ (A : Around) (i : Nat) (s : Shared) (Q : Value → Shared → Prop) (E : Value → Shared → Prop), tn i s.heap → Q (.ref it) s → wpAny (model P w) A (pyIter (.ref it)) Q E s
noncomputable abbrev TI := St → Hp → (It → Hp → Prop) → Prop
noncomputable def PIE (X : Cx) (pins : List (Addr × Obj)) (σ : St) (tg : Expr) (R : It → Hp → Prop) (itv : Value) (s2 : Shared) : Prop :=
 ∃ (it : Addr) (fp : List Addr) (tn : Nat → Heap → Prop) (J : It) (H' : Hp), itv = .ref it ∧ Inv X pins σ H' s2 ∧ Turn X.prog X.w X.K tg J fp it tn ∧ tn 0 s2.heap ∧ (∀ b ∈ fp, FpOk X pins H' b) ∧ R J H'
noncomputable def PI (X : Cx) (tg iter : Expr) (wi : TI) : Prop :=
 ∀ (pins : List (Addr × Obj)) (s : Shared) (σ : St) (H : Hp) (R : It → Hp → Prop), Inv X pins σ H s → wi σ H R →
  wpAny (model X.prog X.w) X.A (eval iter X.env) (fun v s1 => wpAny (model X.prog X.w) X.A (pyIter v) (PIE X pins σ tg R) X.xe s1) X.xe s
theorem go_of {M : Model} {A : Around} {E : Value → Shared → Prop} {s : Shared} {tg : Expr} {it : Addr} {u : Value} {o : Obj} {n : String} {vs : Array Value} {Q : Unit → Shared → Prop} (ho : s.heap.get? it = some o) (hc : o.cls = .type n) (hd : o.data = .fields vs)
    (hn : ["enumerate", "zip", "dict_itemiterator", "dict_reverseitemiterator", "odict_iterator", "itertools.zip_longest", "itertools.pairwise"].contains n = false) (hQ : Q () s) : wpAny M A (letOwnedTupleGo tg (.ref it) u) Q E s := by
  unfold letOwnedTupleGo
  cases tg <;> first
    | exact wpAny_pure hQ
    | (cases u <;> first
        | exact wpAny_pure hQ
        | (refine wpAny_bind (wpAny_load ho ?_)
           rw [hc, hd]
           show wpAny M A (if (["enumerate", "zip", "dict_itemiterator", "dict_reverseitemiterator", "odict_iterator", "itertools.zip_longest", "itertools.pairwise"].contains n && vs[0]? == some (rawInt _)) = true then _ else _) Q E s
           rw [if_neg (by intro h; rw [hn, Bool.false_and] at h; cases h)]
           exact wpAny_pure hQ))
noncomputable def Itl (K : PySem.W.Frag) (a : Addr) : It :=
 ⟨fun i H => ∃ xs x, SqL K H a xs ∧ xs[i]? = some x, fun i H x H' => H' = H ∧ ∀ xs, SqL K H a xs → xs[i]? = some x, fun i H => ∃ xs, SqL K H a xs ∧ xs.length ≤ i⟩
noncomputable def Itt (K : PySem.W.Frag) (a : Addr) : It :=
 ⟨fun i H => ∃ xs x, SqT K H a xs ∧ xs[i]? = some x, fun i H x H' => H' = H ∧ ∀ xs, SqT K H a xs → xs[i]? = some x, fun i H => ∃ xs, SqT K H a xs ∧ xs.length ≤ i⟩
noncomputable def Itr (lo : Int) (n : Nat) : It := ⟨fun i _ => i < n, fun i H x H' => H' = H ∧ x = .int (lo + i), fun i _ => n ≤ i⟩
theorem turn_list {P : Program} {w : World} {K : PySem.W.Frag} {tg : Expr} (a it : Addr) : Turn P w K tg (Itl K a) [it] it (fun i h => h.IsListIter it a i) where
 mem := by simp
 obj := fun i h st b hb => by
  have e : b = it := by simpa using hb
  subst e
  obtain ⟨o, e, c, d⟩ := st
  exact ⟨o, e, fun v z => by rw [d] at z; cases z⟩
 keep := fun i h h' st k => st.at fun o e => k it (by simp) o e
 item := by
  intro X hP hw hK hc i pins s σ H E I hf st hg
  subst hP hw hK
  obtain ⟨xs, x, hq, hx⟩ := hg
  obtain ⟨its, rv, p, hz⟩ := I.list hq
  obtain ⟨u, hu, ru⟩ := rv.get hx
  obtain ⟨f0, f1, f2, f3, f4, f5⟩ := hf it (by simp)
  refine wpAny_pyNext_list_item st p.isList (x := u) (by simpa using hu) fun h' st' sb => ?_
  have I1 : Inv X pins σ H { s with heap := h' } := I.turned (t' := s.toks) (fun b o hb e => (sb.2 b hb).trans e) f0 f1 f3 f4 f5
  obtain ⟨o, e, c, d⟩ := id st'
  exact ⟨u, rfl, go_of (s := { s with heap := h' }) e c d (by decide) ⟨x, H, I1, ru, ⟨rfl, fun ys hy => by rw [I.list_inj hy hq]; exact hx⟩, st', fun b hb => (hf b hb).1⟩⟩
 done := by
  intro X hP hw hK hc i pins s σ H E I hf st hg
  subst hP hw hK
  obtain ⟨xs, hq, hx⟩ := hg
  obtain ⟨its, rv, p, hz⟩ := I.list hq
  obtain ⟨f0, f1, f2, f3, f4, f5⟩ := hf it (by simp)
  have hl := rv.length
  exact wpAny_pyNext_list_end (I.ok.hd hc) st p.isList (by simp; lia) fun h' eb => ⟨rfl, I.turned (t' := s.toks) (fun b o hb e => eb b o hb e) f0 f1 f3 f4 f5⟩
 self := fun _ _ _ _ _ st h => wpAny_pyIter_listiter st h
theorem turn_tuple {P : Program} {w : World} {K : PySem.W.Frag} {tg : Expr} (a it : Addr) : Turn P w K tg (Itt K a) [it] it (fun i h => h.IsTupleIter it a i) where
 mem := by simp
 obj := fun i h st b hb => by
  have e : b = it := by simpa using hb
  subst e
  obtain ⟨o, e, c, d⟩ := st
  exact ⟨o, e, fun v z => by rw [d] at z; cases z⟩
 keep := fun i h h' st k => st.at fun o e => k it (by simp) o e
 item := by
  intro X hP hw hK hc i pins s σ H E I hf st hg
  subst hP hw hK
  obtain ⟨xs, x, hq, hx⟩ := hg
  obtain ⟨its, rv, p, hz⟩ := I.tuple hq
  obtain ⟨u, hu, ru⟩ := rv.get hx
  obtain ⟨f0, f1, f2, f3, f4, f5⟩ := hf it (by simp)
  refine wpAny_pyNext_tuple_item st (show s.heap.IsTuple a its.toArray from p) (x := u) (by simpa using hu) fun h' st' sb => ?_
  have I1 : Inv X pins σ H { s with heap := h' } := I.turned (t' := s.toks) (fun b o hb e => (sb.2 b hb).trans e) f0 f1 f3 f4 f5
  obtain ⟨o, e, c, d⟩ := id st'
  exact ⟨u, rfl, go_of (s := { s with heap := h' }) e c d (by decide) ⟨x, H, I1, ru, ⟨rfl, fun ys hy => by rw [I.tuple_inj hy hq]; exact hx⟩, st', fun b hb => (hf b hb).1⟩⟩
 done := by
  intro X hP hw hK hc i pins s σ H E I hf st hg
  subst hP hw hK
  obtain ⟨xs, hq, hx⟩ := hg
  obtain ⟨its, rv, p, hz⟩ := I.tuple hq
  obtain ⟨f0, f1, f2, f3, f4, f5⟩ := hf it (by simp)
  have hl := rv.length
  exact wpAny_pyNext_tuple_end (I.ok.hd hc) st (show s.heap.IsTuple a its.toArray from p) (by simp; lia) fun h' eb => ⟨rfl, I.turned (t' := s.toks) (fun b o hb e => eb b o hb e) f0 f1 f3 f4 f5⟩
 self := fun _ _ _ _ _ st h => wpAny_pyIter_tupleiter st h
theorem turn_range {P : Program} {w : World} {K : PySem.W.Frag} {tg : Expr} (it : Addr) (lo : Int) (n : Nat) : Turn P w K tg (Itr lo n) [it] it (fun i h => IsRangeIter h it (lo + (i : Nat) * 1) ((n : Int) - (i : Nat)) 1) where
 mem := by simp
 obj := fun i h st b hb => by
  have e : b = it := by simpa using hb
  subst e
  exact ⟨_, st, fun v z => by
   have z' : Data.fields _ = Data.cell v := z
   cases z'⟩
 keep := fun i h h' st k => k it (by simp) _ st
 item := by
  intro X hP hw hK hc i pins s σ H E I hf st hg
  subst hP hw hK
  obtain ⟨f0, f1, f2, f3, f4, f5⟩ := hf it (by simp)
  have W := Walks.range (prog := X.prog) (w := X.w) (I.ok.hd hc) it lo 1 n
  refine W.item i s _ _ hg st fun v h' tk hv st' kk => ?_
  obtain ⟨t, rfl⟩ := hv
  have I1 : Inv X pins σ H { s with heap := h', toks := tk } := I.turned (fun b o hb e => kk b o (by simpa using hb) e) f0 f1 f3 f4 f5
  refine ⟨_, rfl, go_of (s := { s with heap := h', toks := tk }) (n := "range_iterator") st' rfl rfl (by decide) ⟨.int (lo + i), H, I1, ⟨t, ?_⟩, ⟨rfl, rfl⟩, st', fun b hb => (hf b hb).1⟩⟩
  rw [Int.mul_one]
 done := by
  intro X hP hw hK hc i pins s σ H E I hf st hg
  subst hP hw hK
  obtain ⟨f0, f1, f2, f3, f4, f5⟩ := hf it (by simp)
  exact wpAny_pyNext_range_end (I.ok.hd hc) st (by have : n ≤ i := hg; lia) fun h' eb => ⟨rfl, I.turned (t' := s.toks) (fun b o hb e => eb b o hb e) f0 f1 f3 f4 f5⟩
 self := fun _ _ _ _ _ st h => wpAny_pyIter_rangeiter st h
end L2
namespace L2
open PySem PySem.Spec PyProof.Rows
section
variable {X : Cx} {tg : Expr}
theorem range_it {pins : List (Addr × Obj)} {σ : St} {H : Hp} {s : Shared} {R : It → Hp → Prop} {E : Value → Shared → Prop} {lo hi : Int} {t u v : Tok} {tk : Nat} (I : Inv X pins σ H s) (h1 : -(2 ^ 62) ≤ lo) (h2 : lo < 2 ^ 62) (h3 : -(2 ^ 62) ≤ hi) (h4 : hi < 2 ^ 62)
  (q : R (Itr lo (hi - lo).toNat) H) : wpAny (model X.prog X.w) X.A (pyIter (.ref s.heap.objs.size)) (PIE X pins σ tg R) E { s with heap := s.heap.push { cls := .type "range", data := .fields #[.int lo t, .int hi u, .int 1 v] }, toks := tk } := by
 refine wpAny_pyIter_range (IsRange.new ..) (small_one h1 h2 h3 h4) ?_
 have I1 : Inv X pins σ H { s with heap := s.heap.push { cls := .type "range", data := .fields #[.int lo t, .int hi u, .int 1 v] }, toks := tk } := I.kept fun b o e => Heap.get?_push_of_some _ e
 refine ⟨(s.heap.push { cls := .type "range", data := .fields #[.int lo t, .int hi u, .int 1 v] }).objs.size, [(s.heap.push { cls := .type "range", data := .fields #[.int lo t, .int hi u, .int 1 v] }).objs.size], _, _, H, rfl,
  I1.kept (t' := tk) fun b o e => Heap.get?_push_of_some _ e, turn_range _ lo (hi - lo).toNat, ?_, fun b hb => ?_, q⟩
 ·have e1 : lo + ((0 : Nat) : Int) * 1 = lo := by simp
  have e2 : (((hi - lo).toNat : Nat) : Int) - ((0 : Nat) : Int) = Builtin.Range.rangeSize lo hi 1 := by rw [rangeSize_one]; split <;> lia
  show IsRangeIter _ _ (lo + ((0 : Nat) : Int) * 1) ((((hi - lo).toNat : Nat) : Int) - ((0 : Nat) : Int)) 1
  rw [e1, e2]
  exact Heap.get?_push_size _ rfl
 ·have e : b = (s.heap.push { cls := .type "range", data := .fields #[.int lo t, .int hi u, .int 1 v] }).objs.size := by simpa using hb
  subst e
  exact I1.fpOk (Nat.le_refl _) (I1.hok.fresh (Nat.le_refl _))
noncomputable def iRng1 (ta : TA) : TI := fun σ H R => ta σ H fun vs H1 => ∃ j : Int, vs = [.int j] ∧ -(2 ^ 62) ≤ j ∧ j < 2 ^ 62 ∧ R (Itr 0 j.toNat) H1
noncomputable def iRng2 (ta : TA) : TI := fun σ H R => ta σ H fun vs H1 => ∃ i j : Int, vs = [.int i, .int j] ∧ (-(2 ^ 62) ≤ i ∧ i < 2 ^ 62 ∧ -(2 ^ 62) ≤ j ∧ j < 2 ^ 62) ∧ R (Itr i (j - i).toNat) H1
theorem pi_range1 {a : Expr} {ta : TA} {p pos : Pos} (hg : Gl X "range") (hm : X.mg "range" = none) (ha : PA X [a] ta) (hs : starEach [a] X.env = [(false, eval a X.env)] := by rfl) : PI X tg (.Call (.Name "range" p) [a] [] pos) (iRng1 ta) := by
 intro pins s σ H R I h
 refine Call_ (ld_blt I hg hm boot_range (PyProof.Rows.callWith_type1 (thn (ha pos pins s σ H _ I h) fun us s1 hX11_ => ?_) hs rfl))
 obtain ⟨vs, H1, I1, r1, q1⟩ := hX11_
 obtain ⟨j, e, q1, q2, q⟩ := q1
 subst e
 cases r1 with
 | cons r rr =>
  cases rr
  obtain ⟨t, rfl⟩ := r
  exact call_range_1 (range_it I1 (by lia) (by lia) q1 q2 (by simpa using q))
theorem pi_range2 {a b : Expr} {ta : TA} {p pos : Pos} (hg : Gl X "range") (hm : X.mg "range" = none) (ha : PA X [a, b] ta) (hs : starEach [a, b] X.env = [(false, eval a X.env), (false, eval b X.env)] := by rfl) (hs2 : starEach [b] X.env = [(false, eval b X.env)] := by rfl) :
  PI X tg (.Call (.Name "range" p) [a, b] [] pos) (iRng2 ta) := by
 intro pins s σ H R I h
 refine Call_ (ld_blt I hg hm boot_range (PyProof.Rows.callWith_type1 (thn (ha pos pins s σ H _ I h) fun us s1 hX11_ => ?_) (by rw [hs, hs2]) (by rw [hs2]; rfl)))
 obtain ⟨vs, H1, I1, r1, q1⟩ := hX11_
 obtain ⟨i, j, e, ⟨q1, q2, q3, q4⟩, q⟩ := q1
 subst e
 cases r1 with
 | cons r rr =>
  cases rr with
  | cons r' rr =>
   cases rr
   obtain ⟨t, rfl⟩ := r
   obtain ⟨t', rfl⟩ := r'
   exact call_range_2 (range_it I1 q1 q2 q3 q4 q)
noncomputable def tFor (wi : TI) (g : TG) (tb : TS) : TS := fun D σ H => wi σ H fun J H1 => ∃ W : Nat → Nat → St → Hp → Prop, (∃ m, W 0 m σ H1) ∧ ∀ i m σ H, W i m σ H →
 (J.stop i H ∧ D.nx σ H) ∨ (J.go i H ∧ ∃ N : St → Hp → Prop, (∀ σ' H', N σ' H' → ∃ m', m' < m ∧ W (i + 1) m' σ' H') ∧ ∀ x H', J.yld i H x H' → g x σ H' fun σ2 H2 => tb { D with nx := N, ct := N, bk := D.nx } σ2 H2)
noncomputable def pinsAt (fp : List Addr) (h : Heap) : List (Addr × Obj) := fp.filterMap fun b => (h.get? b).map fun o => (b, o)
theorem mem_pinsAt {fp : List Addr} {h : Heap} {b : Addr} {o : Obj} (hb : b ∈ fp) (e : h.get? b = some o) : (b, o) ∈ pinsAt fp h := List.mem_filterMap.mpr ⟨b, hb, by rw [e]; rfl⟩
theorem of_pinsAt {fp : List Addr} {h : Heap} {p : Addr × Obj} (hp : p ∈ pinsAt fp h) : p.1 ∈ fp ∧ h.get? p.1 = some p.2 := by
 obtain ⟨b, hb, e⟩ := List.mem_filterMap.mp hp
 cases q : h.get? b with
 | none => rw [q] at e; cases e
 | some o =>
  rw [q] at e
  have e' : (b, o) = p := Option.some.inj e
  subst e'
  exact ⟨hb, q⟩
theorem Inv.pinned {pins : List (Addr × Obj)} {σ : St} {H : Hp} {s : Shared} {fp : List Addr} (I : Inv X pins σ H s) (hf : ∀ b ∈ fp, FpOk X pins H b) (ho : ∀ b ∈ fp, ∃ o, s.heap.get? b = some o ∧ ∀ v, o.data ≠ .cell v) : Inv X (pins ++ pinsAt fp s.heap) σ H s :=
 I.pins_of fun p hp => (List.mem_append.mp hp).elim (fun z => I.pin p (List.mem_append_right _ z)) fun z => by
  obtain ⟨hb, e⟩ := of_pinsAt z
  obtain ⟨f0, f1, f2, _⟩ := hf p.1 hb
  obtain ⟨o, e', d⟩ := ho p.1 hb
  rw [e] at e'; cases e'
  exact ⟨e, f0, f1, f2, d⟩
theorem Inv.unpinned {pins pl : List (Addr × Obj)} {σ : St} {H : Hp} {s : Shared} (I : Inv X (pins ++ pl) σ H s) : Inv X pins σ H s := I.pins_of fun p hp => I.pin p (List.mem_append_right _ (List.mem_append_left _ hp))
theorem ps_for {iter : Expr} {body : List Stmt} {wi : TI} {g : TG} {tb : TS} {pos : Pos} (hp : PassesOwn (model X.prog X.w) X.A X.env X.xe) (hc : X.calm = true) (hi : PI X tg iter wi) (hg : PG X tg g) (hb : PSs X body tb)
  (hs : ∀ x, foldedSetIterable iter X.env x = pure x := by intro _; rfl) : PS X (.For tg iter body [] pos) (tFor wi g tb) := by
 intro pins s σ H D I h
 refine wpAny_For (thn (hi pins s σ H _ I h) fun v s1 h1 => thn h1 fun itv s2 h2 => ?_) hs
 obtain ⟨it, fp, tn, J, H2, e, I2, T, st2, f2, W, ⟨m0, w0⟩, turn⟩ := h2
 subst e
 have stat : ∀ {H' : Hp}, (∀ b ∈ fp, H' b = none) → ∀ b ∈ fp, FpOk X pins H' b := fun hn b hb => ⟨hn b hb, (f2 b hb).2⟩
 refine codeAny_forLoop_any (fun n s' => ∃ i σ' H', Inv X pins σ' H' s' ∧ tn i s'.heap ∧ (∀ b ∈ fp, H' b = none) ∧ W i n σ' H') ?_ m0 ⟨0, σ, H2, I2, st2, fun b hb => (f2 b hb).1, w0⟩
 rintro n s3 ⟨i, σ3, H3, I3, st3, fr3, w3⟩
 rcases turn i n σ3 H3 w3 with ⟨stop, qn⟩ | ⟨go, N, hN, step⟩
 ·refine wpAny_passesOwn hp (thn (T.done X rfl rfl rfl hc i pins s3 σ3 H3 X.xe I3 (stat fr3) st3 stop) fun r s4 ⟨hr, I4⟩ => ?_)
  subst hr
  exact wpAny_execs_nil ⟨σ3, H3, I4, qn⟩
 ·refine wpAny_passesOwn hp (thn (T.item X rfl rfl rfl hc i pins s3 σ3 H3 X.xe I3 (stat fr3) st3 go) fun r s4 ⟨u, hr, h4⟩ => ?_)
  subst hr
  refine wpAny_passesOwn hp (thn h4 fun _ s5 hX11_ => ?_)
  obtain ⟨x, H5, I5, r5, y5, st5, fr5⟩ := hX11_
  have I5' := I5.pinned (stat fr5) (T.obj _ _ st5)
  refine wpAny_passesOwn hp (thn (hg _ s5 σ3 H5 x u _ I5' r5 (step x H5 y5)) fun _ s6 hX21_ => ?_)
  obtain ⟨σ6, H6, I6, q6⟩ := hX21_
  refine wpAny_passesOwn hp (thn (hb _ s6 σ6 H6 _ I6 q6) fun f s7 q7 => ?_)
  have again : ∀ {σ7 : St} {H7 : Hp}, Inv X (pins ++ pinsAt fp s5.heap) σ7 H7 s7 → N σ7 H7 → ∃ m, m < n ∧ ∃ i σ' H', Inv X pins σ' H' s7 ∧ tn i s7.heap ∧ (∀ b ∈ fp, H' b = none) ∧ W i m σ' H' := fun {σ7 H7} I7 n7 => by
   obtain ⟨m', hm, w7⟩ := hN σ7 H7 n7
   refine ⟨m', hm, i + 1, σ7, H7, I7.unpinned, T.keep _ _ _ st5 fun b hb o e => (I7.pin (b, o) (List.mem_append_right _ (List.mem_append_right _ (mem_pinsAt hb e)))).1, fun b hb => ?_, w7⟩
   obtain ⟨o, e, d⟩ := T.obj _ _ st5 b hb
   exact (I7.pin (b, o) (List.mem_append_right _ (List.mem_append_right _ (mem_pinsAt hb e)))).2.1
  cases f with
  | next => obtain ⟨σ7, H7, I7, n7⟩ := q7; exact again I7 n7
  | cont => obtain ⟨σ7, H7, I7, n7⟩ := q7; exact again I7 n7
  | brk => obtain ⟨σ7, H7, I7, q7⟩ := q7; exact ⟨σ7, H7, I7.unpinned, q7⟩
  | ret v => obtain ⟨x7, σ7, H7, I7, r7, q7⟩ := q7; exact ⟨x7, σ7, H7, I7.unpinned, r7, q7⟩
end
end L2
namespace L2
open PySem PySem.Spec PyProof.Rows
noncomputable abbrev R2 := V → V → Hp → VK → Prop
noncomputable def OpR (X : Cx) (f : Value → Value → Sem Value) (r : R2) : Prop :=
 ∀ (pins : List (Addr × Obj)) (s : Shared) (σ : St) (H : Hp) (x y : V) (v u : Value) (Q : VK), Inv X pins σ H s → RelV x v → RelV y u → r x y H Q →
  wpAny (model X.prog X.w) X.A (f v u) (EP X pins σ Q) X.xe s
noncomputable def CallR (X : Cx) (f : Value) (r : List V → Hp → VK → Prop) : Prop :=
 ∀ (pins : List (Addr × Obj)) (s : Shared) (σ : St) (H : Hp) (xs : List V) (us : List Value) (Q : VK), Inv X pins σ H s → Vals xs us → r xs H Q →
  wpAny (model X.prog X.w) X.A (call f us) (EP X pins σ Q) X.xe s
noncomputable def tOp (r : R2) (ta tb : TE) : TE := fun σ H Q => ta σ H fun x H1 => tb σ H1 fun y H2 => r x y H2 Q
noncomputable def tUn (r : V → Hp → VK → Prop) (ta : TE) : TE := fun σ H Q => ta σ H fun x H1 => r x H1 Q
noncomputable def rI (C : Int → Int → Prop) (g : Int → Int → V) : R2 := fun x y H Q => ∃ i j, x = .int i ∧ y = .int j ∧ C i j ∧ Q (g i j) H
noncomputable def rI0 (g : Int → Int → V) : R2 := fun x y H Q => ∃ i j, x = .int i ∧ y = .int j ∧ Q (g i j) H
section
variable {X : Cx} {a b c : Expr} {ta tb tc : TE} {pos : Pos}
theorem binT (ha : PE X a ta) (hb : PE X b tb) {pins : List (Addr × Obj)} {s : Shared} {σ : St} {H : Hp} {R : V → V → Hp → Prop} (I : Inv X pins σ H s)
  (h : ta σ H fun x H1 => tb σ H1 fun y H2 => R x y H2) {Q : Value → Shared → Prop} {f : Value → Value → Sem Value}
  (hf : ∀ v u s2 x y H2, Inv X pins σ H2 s2 → RelV x v → RelV y u → R x y H2 → wpAny (model X.prog X.w) X.A (f v u) Q X.xe s2) :
  wpAny (model X.prog X.w) X.A (eval a X.env) (fun v s₁ => wpAny (model X.prog X.w) X.A (eval b X.env) (fun u s₂ => wpAny (model X.prog X.w) X.A (f v u) Q X.xe s₂) X.xe s₁) X.xe s := by
 refine thn (ha pins s σ H _ I h) fun v s1 hX11_ => ?_
 obtain ⟨x, H1, I1, r1, q1⟩ := hX11_
 refine thn (hb pins s1 σ H1 _ I1 q1) fun u s2 hX21_ => ?_
 obtain ⟨y, H2, I2, r2, q2⟩ := hX21_
 exact hf v u s2 x y H2 I2 r1 r2 q2
theorem pe_op {op : Operator} {r : R2} (ho : OpR X (binaryOp op) r) (ha : PE X a ta) (hb : PE X b tb) : PE X (.BinOp a op b pos) (tOp r ta tb) := by
 intro pins s σ H Q I h
 exact wpAny_BinOp (binT ha hb I h fun v u s2 x y H2 I2 rx ry q => ho pins s2 σ H2 x y v u Q I2 rx ry q)
theorem opI {f : Value → Value → Sem Value} {C : Int → Int → Prop} {g : Int → Int → Int}
  (rule : ∀ (i j : Int) (t u : Tok) (s : Shared) (Q : Value → Shared → Prop) (E : Value → Shared → Prop), C i j → Q (.int (g i j) s.toks) { s with toks := s.toks + 1 } → wpAny (model X.prog X.w) X.A (f (.int i t) (.int j u)) Q E s) :
  OpR X f (rI C fun i j => .int (g i j)) := by
 intro pins s σ H x y v u Q I rx ry h
 obtain ⟨i, j, rfl, rfl, hc, q⟩ := h
 obtain ⟨t, rfl⟩ := rx
 obtain ⟨t', rfl⟩ := ry
 exact rule i j t t' s _ _ hc ⟨.int (g i j), H, I.tok _, ⟨_, rfl⟩, q⟩
theorem opI0 {f : Value → Value → Sem Value} {g : Int → Int → Int}
  (rule : ∀ (i j : Int) (t u : Tok) (s : Shared) (Q : Value → Shared → Prop) (E : Value → Shared → Prop), Q (.int (g i j) s.toks) { s with toks := s.toks + 1 } → wpAny (model X.prog X.w) X.A (f (.int i t) (.int j u)) Q E s) :
  OpR X f (rI0 fun i j => .int (g i j)) := by
 intro pins s σ H x y v u Q I rx ry h
 obtain ⟨i, j, rfl, rfl, q⟩ := h
 obtain ⟨t, rfl⟩ := rx
 obtain ⟨t', rfl⟩ := ry
 exact rule i j t t' s _ _ ⟨.int (g i j), H, I.tok _, ⟨_, rfl⟩, q⟩
theorem opB0 {f : Value → Value → Sem Value} {g : Int → Int → Bool}
  (rule : ∀ (i j : Int) (t u : Tok) (s : Shared) (Q : Value → Shared → Prop) (E : Value → Shared → Prop), Q (.bool (g i j)) s → wpAny (model X.prog X.w) X.A (f (.int i t) (.int j u)) Q E s) :
  OpR X f (rI0 fun i j => .bl (g i j)) := by
 intro pins s σ H x y v u Q I rx ry h
 obtain ⟨i, j, rfl, rfl, q⟩ := h
 obtain ⟨t, rfl⟩ := rx
 obtain ⟨t', rfl⟩ := ry
 exact rule i j t t' s _ _ ⟨.bl (g i j), H, I, rfl, q⟩
noncomputable def CDiv (i j : Int) : Prop := 0 < j ∧ j < 1073741824
noncomputable def CMul (i j : Int) : Prop := (-(2 ^ 64) < i ∧ i < 2 ^ 64) ∨ (-(2 ^ 64) < j ∧ j < 2 ^ 64)
theorem CMul.ok {i j : Int} (h : CMul i j) : IntMulOk i j := by
 rcases h with ⟨h1, h2⟩ | ⟨h1, h2⟩
 ·exact .of_left (intBits_le_64 h1 h2)
 ·exact .of_right (intBits_le_64 h1 h2)
theorem op_add : OpR X (binaryOp .Add) (rI0 fun i j => .int (i + j)) := opI0 fun _ _ _ _ _ _ _ q => add_int q
theorem op_sub : OpR X (binaryOp .Sub) (rI0 fun i j => .int (i - j)) := opI0 fun _ _ _ _ _ _ _ q => sub_int q
theorem op_mul : OpR X (binaryOp .Mult) (rI CMul fun i j => .int (i * j)) := opI fun _ _ _ _ _ _ _ hc q => mul_int q hc.ok
theorem op_fdiv : OpR X (binaryOp .FloorDiv) (rI CDiv fun i j => .int (i / j)) := opI fun i j _ _ _ _ _ hc q => by
 have h1 : (0 : Int) < j := hc.1
 have h2 : j < 1073741824 := hc.2
 exact floordiv_int (by lia) (by rw [Int.fdiv_eq_ediv_of_nonneg i (by lia)]; exact q) (.inl (PyProof.noPylong_small (by lia)))
theorem op_mod : OpR X (binaryOp .Mod) (rI (fun _ j => 0 < j) fun i j => .int (i % j)) := opI fun i j _ _ _ _ _ hc q => by
 have h1 : (0 : Int) < j := hc
 exact mod_int' (by lia) (by rw [Int.fmod_eq_emod_of_nonneg i (by lia)]; exact q)
end
noncomputable def scal : V → V → Bool
 | .non, .non => true | .non, .int _ => true | .int _, .non => true | .non, .bl _ => true | .bl _, .non => true | .non, .str _ => true | .str _, .non => true
 | .int _, .int _ => true | .bl _, .bl _ => true | .str _, .str _ => true | .byt _, .byt _ => true
 | .int _, .str _ => true | .str _, .int _ => true | .bl _, .str _ => true | .str _, .bl _ => true
 | _, _ => false
noncomputable def rEq : R2 := fun x y H Q => scal x y = true ∧ Q (.bl (decide (x = y))) H
noncomputable def rNe : R2 := fun x y H Q => scal x y = true ∧ Q (.bl (!decide (x = y))) H
theorem dec_int {i j : Int} : decide (V.int i = V.int j) = (i == j) := by
 rw [Bool.eq_iff_iff]
 simp
theorem dec_bl {i j : Bool} : decide (V.bl i = V.bl j) = (i == j) := by
 rw [Bool.eq_iff_iff]
 simp
theorem dec_str {i j : Str} : decide (V.str i = V.str j) = (i == j) := by
 rw [Bool.eq_iff_iff]
 simp
theorem dec_byt {i j : Array UInt8} : decide (V.byt i = V.byt j) = (i.toList == j.toList) := by
 rw [Bool.eq_iff_iff]
 cases i
 cases j
 simp
section
variable {X : Cx} {a b c : Expr} {ta tb tc : TE} {pos : Pos}
theorem fin_bl {pins : List (Addr × Obj)} {σ : St} {H : Hp} {s : Shared} {Q : VK} {k k' : Bool} (I : Inv X pins σ H s) (q : Q (.bl k) H) (e : k = k') : EP X pins σ Q (.bool k') s := by
 subst e
 exact ⟨.bl k, H, I, rfl, q⟩
theorem op_eq : OpR X (compareOp .Eq) rEq := by
 intro pins s σ H x y v u Q I rx ry h
 obtain ⟨hs, q⟩ := h
 cases x with
 | non =>
  cases rx
  cases y with
  | non => cases ry; exact PySem.EqNone.eq_none_none (fin_bl I q (by simp))
  | bl j => cases ry; exact PySem.EqNone.eq_none_bool (fin_bl I q (by simp))
  | int j => obtain ⟨t', rfl⟩ := ry; exact PySem.EqNone.eq_none_int (fin_bl I q (by simp))
  | str j => obtain ⟨t', rfl⟩ := ry; exact PySem.EqNone.eq_none_str (fin_bl I q (by simp))
  | _ => exact absurd (show false = true from hs) Bool.false_ne_true
 | bl i =>
  cases rx
  cases y with
  | non => cases ry; exact PySem.EqNone.eq_bool_none (fin_bl I q (by simp))
  | bl j => cases ry; exact eq_bool (fin_bl I q dec_bl)
  | str j => obtain ⟨t', rfl⟩ := ry; exact PySem.EqMixed.eq_bool_str (fin_bl I q (by simp))
  | _ => exact absurd (show false = true from hs) Bool.false_ne_true
 | int i =>
  obtain ⟨t, rfl⟩ := rx
  cases y with
  | non => cases ry; exact PySem.EqNone.eq_int_none (fin_bl I q (by simp))
  | int j => obtain ⟨t', rfl⟩ := ry; exact eq_int (fin_bl I q dec_int)
  | str j => obtain ⟨t', rfl⟩ := ry; exact PySem.EqMixed.eq_int_str (fin_bl I q (by simp))
  | _ => exact absurd (show false = true from hs) Bool.false_ne_true
 | str i =>
  obtain ⟨t, rfl⟩ := rx
  cases y with
  | non => cases ry; exact PySem.EqNone.eq_str_none (fin_bl I q (by simp))
  | bl j => cases ry; exact PySem.EqMixed.eq_str_bool (fin_bl I q (by simp))
  | int j => obtain ⟨t', rfl⟩ := ry; exact PySem.EqMixed.eq_str_int (fin_bl I q (by simp))
  | str j => obtain ⟨t', rfl⟩ := ry; exact eq_str (fin_bl I q dec_str)
  | _ => exact absurd (show false = true from hs) Bool.false_ne_true
 | byt i =>
  obtain ⟨t, rfl⟩ := rx
  cases y with
  | byt j => obtain ⟨t', rfl⟩ := ry; exact PySem.W.eq_bytes (fin_bl I q dec_byt)
  | _ => exact absurd (show false = true from hs) Bool.false_ne_true
 | _ => cases y <;> exact absurd (show false = true from hs) Bool.false_ne_true
theorem op_ne : OpR X (compareOp .NotEq) rNe := by
 intro pins s σ H x y v u Q I rx ry h
 obtain ⟨hs, q⟩ := h
 cases x with
 | non =>
  cases rx
  cases y with
  | non => cases ry; exact PySem.EqNone.ne_none_none (fin_bl I q (by simp))
  | bl j => cases ry; exact PySem.EqNone.ne_none_bool (fin_bl I q (by simp))
  | int j => obtain ⟨t', rfl⟩ := ry; exact PySem.EqNone.ne_none_int (fin_bl I q (by simp))
  | str j => obtain ⟨t', rfl⟩ := ry; exact PySem.EqNone.ne_none_str (fin_bl I q (by simp))
  | _ => exact absurd (show false = true from hs) Bool.false_ne_true
 | bl i =>
  cases rx
  cases y with
  | non => cases ry; exact PySem.EqNone.ne_bool_none (fin_bl I q (by simp))
  | bl j => cases ry; exact ne_bool (fin_bl I q (congrArg not dec_bl))
  | str j => obtain ⟨t', rfl⟩ := ry; exact PySem.EqMixed.ne_bool_str (fin_bl I q (by simp))
  | _ => exact absurd (show false = true from hs) Bool.false_ne_true
 | int i =>
  obtain ⟨t, rfl⟩ := rx
  cases y with
  | non => cases ry; exact PySem.EqNone.ne_int_none (fin_bl I q (by simp))
  | int j => obtain ⟨t', rfl⟩ := ry; exact ne_int (fin_bl I q (congrArg not dec_int))
  | str j => obtain ⟨t', rfl⟩ := ry; exact PySem.EqMixed.ne_int_str (fin_bl I q (by simp))
  | _ => exact absurd (show false = true from hs) Bool.false_ne_true
 | str i =>
  obtain ⟨t, rfl⟩ := rx
  cases y with
  | non => cases ry; exact PySem.EqNone.ne_str_none (fin_bl I q (by simp))
  | bl j => cases ry; exact PySem.EqMixed.ne_str_bool (fin_bl I q (by simp))
  | int j => obtain ⟨t', rfl⟩ := ry; exact PySem.EqMixed.ne_str_int (fin_bl I q (by simp))
  | str j => obtain ⟨t', rfl⟩ := ry; exact ne_str (fin_bl I q (congrArg not dec_str))
  | _ => exact absurd (show false = true from hs) Bool.false_ne_true
 | byt i =>
  obtain ⟨t, rfl⟩ := rx
  cases y with
  | byt j => obtain ⟨t', rfl⟩ := ry; exact PySem.W.ne_bytes (fin_bl I q (congrArg not dec_byt))
  | _ => exact absurd (show false = true from hs) Bool.false_ne_true
 | _ => cases y <;> exact absurd (show false = true from hs) Bool.false_ne_true
theorem op_lt : OpR X (compareOp .Lt) (rI0 fun i j => .bl (decide (i < j))) := opB0 fun _ _ _ _ _ _ _ q => lt_int q
theorem op_le : OpR X (compareOp .LtE) (rI0 fun i j => .bl (decide (i ≤ j))) := opB0 fun _ _ _ _ _ _ _ q => le_int q
theorem op_gt : OpR X (compareOp .Gt) (rI0 fun i j => .bl (decide (j < i))) := opB0 fun _ _ _ _ _ _ _ q => gt_int q
theorem op_ge : OpR X (compareOp .GtE) (rI0 fun i j => .bl (decide (j ≤ i))) := opB0 fun _ _ _ _ _ _ _ q => ge_int q
theorem op_isN : OpR X (compareOp .Is) (fun x y H Q => y = .non ∧ Q (.bl (decide (x = .non))) H) := by
 intro pins s σ H x y v u Q I rx ry h
 obtain ⟨rfl, q⟩ := h
 cases ry
 refine is_none_gen (fin_bl I q ?_)
 cases x <;> first
  | (cases rx; rfl)
  | (obtain ⟨t, rfl⟩ := rx; rfl)
theorem OpR.or {f : Value → Value → Sem Value} {r r' : R2} (h : OpR X f r) (h' : OpR X f r') : OpR X f (fun x y H Q => r x y H Q ∨ r' x y H Q) := by
 intro pins s σ H x y v u Q I rx ry q
 rcases q with q | q
 ·exact h pins s σ H x y v u Q I rx ry q
 ·exact h' pins s σ H x y v u Q I rx ry q
theorem nomark (b : Expr) {op : CmpOp} (h : op ≠ .In := by decide) (h2 : op ≠ .NotIn := by decide) : behindInMarks op b = false := by
 have e1 : (op == CmpOp.In) = false := by cases op <;> first | rfl | exact absurd rfl h
 have e2 : (op == CmpOp.NotIn) = false := by cases op <;> first | rfl | exact absurd rfl h2
 cases b <;> simp [behindInMarks, e1, e2]
theorem pe_cmpR {op : CmpOp} {r : R2} (ho : OpR X (compareOp op) r) (ha : PE X a ta) (hb : PE X b tb) (hm : behindInMarks op b = false) : PE X (.Compare a [op] [b] pos) (tOp r ta tb) := by
 intro pins s σ H Q I h
 exact wpAny_Compare1 (binT ha hb I h fun v u s2 x y H2 I2 rx ry q => ho pins s2 σ H2 x y v u Q I2 rx ry q) hm
noncomputable def tTest (t : TE) : TT := fun σ H Q => t σ H fun x H' => ∃ k, x = .bl k ∧ Q k H'
theorem pt_cmpR {op : CmpOp} {r : R2} (ho : OpR X (compareOp op) r) (ha : PE X a ta) (hb : PE X b tb) (hm : behindInMarks op b = false) : PT X (.Compare a [op] [b] pos) (tTest (tOp r ta tb)) := by
 intro pins s σ H Q I h
 refine wpAny_isTrue_Compare1 (thn (ha pins s σ H _ I h) fun v s1 ⟨x, H1, I1, r1, q1⟩ => thn (hb pins s1 σ H1 _ I1 q1) fun u s2 ⟨y, H2, I2, r2, q2⟩ =>
  thn (ho pins s2 σ H2 x y v u _ I2 r1 r2 q2) fun c s3 ⟨z, H3, I3, r3, k, e, q3⟩ => ?_) hm
 subst e
 cases r3
 exact wpAny_truthy_bool ⟨H3, I3, q3⟩
noncomputable def tChain (r r' : R2) (ta tb tc : TE) : TE := fun σ H Q => ta σ H fun x H1 => tb σ H1 fun y H2 => r x y H2 fun z H3 => ∃ k, z = .bl k ∧
 (if k = true then tc σ H3 fun w' H4 => r' y w' H4 Q else Q (.bl false) H3)
theorem pe_chain {op op' : CmpOp} {r r' : R2} (ho : OpR X (compareOp op) r) (ho' : OpR X (compareOp op') r') (ha : PE X a ta) (hb : PE X b tb) (hc : PE X c tc)
  (hm : lastMarks [op, op'] [b, c] = false := by with_unfolding_all rfl) : PE X (.Compare a [op, op'] [b, c] pos) (tChain r r' ta tb tc) := by
 intro pins s σ H Q I h
 refine Compare_chain (thn (ha pins s σ H _ I h) fun v s1 ⟨x, H1, I1, r1, q1⟩ => chain_link (thn (hb pins s1 σ H1 _ I1 q1) fun u s2 ⟨y, H2, I2, r2, q2⟩ =>
  thn (ho pins s2 σ H2 x y v u _ I2 r1 r2 q2) fun d s3 ⟨z, H3, I3, r3, k, e, q3⟩ => ?_)) hm
 subst e
 cases r3
 refine wpAny_truthy_bool ?_
 cases k with
 | false => exact ite_ff ⟨.bl false, H3, I3, rfl, q3⟩
 | true => exact ite_tt (chain_last (thn (hc pins s3 σ H3 _ I3 q3) fun w' s4 ⟨z', H4, I4, r4, q4⟩ => ho' pins s4 σ H4 y z' u w' Q I4 r2 r4 q4))
theorem line63 : (sizeLine : Nat) < 2 ^ 63 := by rw [sizeLine_eq]; decide
theorem op_add_str : OpR X (binaryOp .Add) (fun x y H Q => ∃ i j, x = .str i ∧ y = .str j ∧ i.length + j.length ≤ sizeLine ∧ Q (.str (i ++ j)) H) := by
 intro pins s σ H x y v u Q I rx ry h
 obtain ⟨i, j, rfl, rfl, hz, q⟩ := h
 obtain ⟨t, rfl⟩ := rx
 obtain ⟨t', rfl⟩ := ry
 exact add_str (fun t' tk => ⟨.str (i ++ j), H, I.tok _, ⟨_, rfl⟩, q⟩) hz
theorem vals1 {x : V} {us : List Value} (r : Vals [x] us) : ∃ u, us = [u] ∧ RelV x u := by
 cases r with
 | cons r1 r2 => cases r2; exact ⟨_, rfl, r1⟩
theorem vals2 {x y : V} {us : List Value} (r : Vals [x, y] us) : ∃ u w', us = [u, w'] ∧ RelV x u ∧ RelV y w' := by
 cases r with
 | cons r1 r2 =>
  cases r2 with
  | cons r3 r4 => cases r4; exact ⟨_, _, rfl, r1, r3⟩
theorem call_max2 (hc : X.calm = true) : CallR X (.builtin "max") (fun xs H Q => ∃ i j, xs = [.int i, .int j] ∧ Q (.int (if j > i then j else i)) H) := by
 intro pins s σ H xs us Q I r h
 obtain ⟨i, j, rfl, q⟩ := h
 obtain ⟨u, w', rfl, ⟨t, rfl⟩, ⟨t', rfl⟩⟩ := vals2 r
 refine max_two_ints (I.ok.hd hc) fun h' tk k => ⟨_, H, I.kept k, ?_, q⟩
 by_cases hj : j > i
 ·rw [if_pos hj, if_pos hj]; exact ⟨_, rfl⟩
 ·rw [if_neg hj, if_neg hj]; exact ⟨_, rfl⟩
theorem call_min2 (hc : X.calm = true) : CallR X (.builtin "min") (fun xs H Q => ∃ i j, xs = [.int i, .int j] ∧ Q (.int (if j < i then j else i)) H) := by
 intro pins s σ H xs us Q I r h
 obtain ⟨i, j, rfl, q⟩ := h
 obtain ⟨u, w', rfl, ⟨t, rfl⟩, ⟨t', rfl⟩⟩ := vals2 r
 refine min_two_ints (I.ok.hd hc) fun h' tk k => ⟨_, H, I.kept k, ?_, q⟩
 by_cases hj : j < i
 ·rw [if_pos hj, if_pos hj]; exact ⟨_, rfl⟩
 ·rw [if_neg hj, if_neg hj]; exact ⟨_, rfl⟩
theorem call_int1 : CallR X (.type "int") (fun xs H Q => (∃ i, xs = [.int i] ∧ Q (.int i) H) ∨ ∃ k, xs = [.bl k] ∧ Q (.int (if k then 1 else 0)) H) := by
 intro pins s σ H xs us Q I r h
 rcases h with ⟨i, rfl, q⟩ | ⟨k, rfl, q⟩
 ·obtain ⟨u, rfl, t, rfl⟩ := vals1 r
  exact call_int_int ⟨.int i, H, I, ⟨_, rfl⟩, q⟩
 ·obtain ⟨u, rfl, r1⟩ := vals1 r
  cases r1
  exact call_int_bool ⟨.int (if k then 1 else 0), H, I.tok _, ⟨_, rfl⟩, q⟩
end
end L2
namespace L2
open PySem PySem.Spec PyProof.Rows
section
variable {prog : Program} {w : World} {A : Around} {E : Value → Shared → Prop} {s : Shared} {K : PySem.W.Frag} {x dx C f : Addr} {mA : Str → Option Value} {name : Str} {v : Value}
end
section
variable {P : Program} {w : World} {H H' : Hp} {h h' : Heap} {a C dx : Addr} {fs fs' : List (Str × V)}
end
section
variable {X : Cx} {pins : List (Addr × Obj)} {σ : St} {H : Hp} {s : Shared} {a C dx : Addr} {fs : List (Str × V)} {f : Str} {v : V} {A : Around} {E : Value → Shared → Prop}
theorem Inv.made (I : Inv X pins σ H s) : Inv X pins σ (upd (upd H s.heap.objs.size (.own (s.heap.objs.size + 1))) (s.heap.objs.size + 1) (.ins C s.heap.objs.size []))
  { s with heap := (s.heap.push PySem.W.emptyDict).push (PySem.W.instObj C s.heap.objs.size) } := by
 have e1 : (s.heap.push PySem.W.emptyDict).get? s.heap.objs.size = some PySem.W.emptyDict := Heap.get?_push_size s.heap rfl
 have e2 : ((s.heap.push PySem.W.emptyDict).push (PySem.W.instObj C s.heap.objs.size)).get? (s.heap.objs.size + 1) = some (PySem.W.instObj C s.heap.objs.size) := by
  have := Heap.get?_push_size (s.heap.push PySem.W.emptyDict) (o := PySem.W.instObj C s.heap.objs.size) rfl
  rwa [Heap.size_push] at this
 have e3 : (s.heap.push PySem.W.emptyDict).Ns s.heap.objs.size (fun _ => none) := ⟨PySem.W.emptyDict, #[], _, e1, rfl, (fun e he => absurd he (by simp)), fun _ => rfl⟩
 have I1 := I.laid (a := s.heap.objs.size) (o := .own (s.heap.objs.size + 1)) (h' := s.heap.push PySem.W.emptyDict) (t' := s.toks) (fun b u q => Heap.get?_push_of_some _ q) (Nat.le_refl _) ⟨_, e1⟩
 refine I1.laid (a := s.heap.objs.size + 1) (o := .ins C s.heap.objs.size []) (t' := s.toks) (fun b u q => Heap.get?_push_of_some _ q) (Nat.le_of_eq (Heap.size_push _ _)) ?_
 have ne : s.heap.objs.size ≠ s.heap.objs.size + 1 := Nat.ne_of_lt (Nat.lt_succ_self _)
 refine ⟨by rw [upd_ne ne, upd_same], Nat.zero_le _, ne, e2, fun _ => none, (Heap.Ns1.of_empty e3).at fun o q => Heap.get?_push_of_some _ q, fun _ => True.intro, fun y hy => absurd rfl hy⟩
end
section
variable {X : Cx} {o e value : Expr} {f : Str} {pos pos' tpos : Pos} {ta tv : TE}
end
section
variable {X : Cx} {pins : List (Addr × Obj)} {σ : St} {H : Hp} {s : Shared} {A : Around} {E : Value → Shared → Prop} {Q : Value → Shared → Prop} {c : Value} {b : Bool}
end
end L2
namespace L2
open PySem PySem.Spec PyProof.Rows
structure Room (k : Nat) (A : Around) : Prop where
 hd : A.handled = none
 dp : A.depth + 3 * k + 5 < recursionLimit
 un : A.units + 16 * k + 200 < cLine
theorem Room.mono {j k : Nat} {A : Around} (r : Room k A) (h : j ≤ k) : Room j A := ⟨r.hd, by have := r.dp; lia, by have := r.un; lia⟩
theorem Room.deeper {k : Nat} {A : Around} (r : Room (k + 1) A) (env : Env) : Room k (A.deeper env) :=
 ⟨r.hd, by have := r.dp; show A.depth + 1 + 3 * k + 5 < _; lia, by have := r.un; show A.units + 3 + 16 * k + 200 < _; lia⟩
theorem Room.in1 {k : Nat} {A : Around} (r : Room (k + 1) A) : Room k A.in1 :=
 ⟨r.hd, by have := r.dp; show A.depth + 3 * k + 5 < _; lia, by have := r.un; show A.units + 1 + 16 * k + 200 < _; lia⟩
theorem Room.depth {k : Nat} {A : Around} (r : Room k A) : A.depth < recursionLimit := by have := r.dp; lia
theorem Room.units {k : Nat} {A : Around} (r : Room k A) : A.units + 64 < cLine := by have := r.un; lia
noncomputable def tNil : TA := fun _ H Q => Q [] H
noncomputable def tCons (ta : TE) (tr : TA) : TA := fun σ H Q => ta σ H fun x H1 => tr σ H1 fun xs H2 => Q (x :: xs) H2
section
variable {X : Cx} {e : Expr} {es : List Expr} {te : TE} {t : TA} {pos : Pos}
theorem pa_nil : PA X [] tNil := fun _ _ _ _ H Q I h => Calls.spliced_nil ⟨[], H, I, .nil, h⟩
theorem pa_cons (ha : PE X e te) (hr : PA X es t) (hs : starEach (e :: es) X.env = (false, eval e X.env) :: starEach es X.env := by rfl) : PA X (e :: es) (tCons te t) := by
 intro pos pins s σ H Q I h
 rw [hs]
 show wpAny _ _ (spliced ((false, eval e X.env) :: backTo pos (starEach es X.env))) _ _ s
 refine Calls.spliced_cons (thn (ha pins s σ H _ I h) fun u s1 hX11_ => ?_)
 obtain ⟨x, H1, I1, r1, q1⟩ := hX11_
 exact thn (hr pos pins s1 σ H1 _ I1 q1) fun us s2 ⟨xs, H2, I2, r2, q2⟩ => ⟨x :: xs, H2, I2, .cons r1 r2, q2⟩
noncomputable def tTup (t : TA) : TE := fun σ H Q => t σ H fun xs H1 => xs.length ≤ sizeLine ∧ ∀ p, H1 p = none → Q (.ref p) (upd H1 p (.tup xs))
noncomputable def tLst (t : TA) : TE := fun σ H Q => t σ H fun xs H1 => xs.length ≤ sizeLine ∧ ∀ p, H1 p = none → Q (.ref p) (upd H1 p (.lst xs))
theorem pe_tup {x1} (h : PA X es t) : PE X (.Tuple es x1 pos) (tTup t) := by
 intro pins s σ H Q I hq
 refine wpAny_Tuple_spliced (thn (h pos pins s σ H _ I hq) fun us s1 ⟨xs, H1, I1, r, z, q⟩ => ⟨by rw [← r.length]; exact z, ?_⟩)
 have hf : H1 s1.heap.objs.size = none := I1.hok.fresh (Nat.le_refl _)
 refine ⟨.ref s1.heap.objs.size, upd H1 s1.heap.objs.size (.tup xs), I1.laid (t' := s1.toks) (fun b u e => Heap.get?_push_of_some _ e) (Nat.le_refl _) ?_, rfl, q _ hf⟩
 exact ⟨z, us, r, ⟨_, Heap.get?_push_size _ rfl, rfl, _, rfl⟩⟩
theorem pe_lst (h : PA X es t) : PE X (.List es pos) (tLst t) := by
 intro pins s σ H Q I hq
 refine wpAny_List_spliced (thn (h pos pins s σ H _ I hq) fun us s1 ⟨xs, H1, I1, r, z, q⟩ => ⟨by rw [← r.length]; exact z, ?_⟩)
 have hf : H1 s1.heap.objs.size = none := I1.hok.fresh (Nat.le_refl _)
 refine ⟨.ref s1.heap.objs.size, upd H1 s1.heap.objs.size (.lst xs), I1.laid (t' := s1.toks) (fun b u e => Heap.get?_push_of_some _ e) (Nat.le_refl _) ?_, rfl, q _ hf⟩
 exact ⟨z, us, 0, r, Heap.get?_push_size _ rfl⟩
end
noncomputable abbrev Sp := List V → Hp → VK → XK → Prop
noncomputable abbrev CXT := List Env → Hp → Shared → XK → Value → Shared → Prop
structure Env0 (P : Program) (w : World) (K : PySem.W.Frag) (mg : Str → Option Value) (base : Heap) (A : Around) (outer : List Env) (s : Shared) (H : Hp) : Prop where
 frames : A.frames = some outer
 mod : Mod K mg base
 bs : ∀ b o, base.get? b = some o → s.heap.get? b = some o ∧ H b = none
 bsz : base.objs.size ≤ s.heap.objs.size
 funs : s.heap.FunFrames base outer
 frf : ∀ b ∈ frs outer, H b = none
 hok : HOk P w H s.heap
 bare : AllBare s.gens
noncomputable def CE (outer : List Env) (P : Program) (w : World) (H : Hp) (s : Shared) (Q : VK) (u : Value) (s' : Shared) : Prop :=
 ∃ v H', s'.os = s.os ∧ AllBare s'.gens ∧ Un (frs outer) [] H H' s.heap s'.heap ∧ HOk P w H' s'.heap ∧ RelV v u ∧ Q v H'
noncomputable def CR (CX : CXT) (outer : List Env) (P : Program) (w : World) (H : Hp) (s : Shared) (Q : VK) (E : XK) (r : Result) (s' : Shared) : Prop :=
 match r with
 | .ok (.ret u) => CE outer P w H s Q u s'
 | .ok _ => False
 | .error e => CX outer H s E e s'
structure FnOk (P : Program) (w : World) (K : PySem.W.Frag) (mg : Str → Option Value) (base : Heap) (CX : CXT) (k : Nat) (f : Addr) (fd : FuncData) (ps : List Str) (sp : Sp) : Prop where
 len : ∀ vs H Q E, sp vs H Q E → vs.length = ps.length
 run : ∀ (A : Around) (outer : List Env) (s : Shared) (H : Hp) (args : Args) (us : List Value) (vs : List V) (Q : VK) (E : XK), Room k A → Env0 P w K mg base A outer s H → BindsTo s fd args (ps.zip us) → Vals vs us → sp vs H Q E →
  codeAny (model P w) A (.call (.ref f) args) (CR CX outer P w H s Q E) s
theorem FnOk.mono {P : Program} {w : World} {K : PySem.W.Frag} {mg : Str → Option Value} {base : Heap} {CX : CXT} {j k : Nat} {f : Addr} {fd : FuncData} {ps : List Str} {sp : Sp} (F : FnOk P w K mg base CX j f fd ps sp) (h : j ≤ k) :
  FnOk P w K mg base CX k f fd ps sp := ⟨F.len, fun A outer s H args us vs Q E hr => F.run A outer s H args us vs Q E (hr.mono h)⟩
theorem Env0.in1 {P : Program} {w : World} {K : PySem.W.Frag} {mg : Str → Option Value} {base : Heap} {A : Around} {outer : List Env} {s : Shared} {H : Hp} (e : Env0 P w K mg base A outer s H) :
  Env0 P w K mg base A.in1 outer s H := ⟨e.frames, e.mod, e.bs, e.bsz, e.funs, e.frf, e.hok, e.bare⟩
section
variable {X : Cx} {pins : List (Addr × Obj)} {σ : St} {H : Hp} {s s' : Shared}
theorem Inv.env0 (I : Inv X pins σ H s) : Env0 X.prog X.w X.K X.mg X.base X.A X.stack s H :=
 ⟨I.ok.frames, I.ok.mod, I.bs, Nat.le_trans I.ok.bsz I.sz, I.stack, I.stkFree, I.hok, I.bare⟩
theorem Inv.after {Q : VK} {u : Value} (I : Inv X pins σ H s) (h : CE X.stack X.prog X.w H s Q u s') : EP X pins σ Q u s' := by
 obtain ⟨v, H', os, bare, un, hok, r, q⟩ := h
 obtain ⟨hh, g, d, t, os'⟩ := s'
 obtain rfl : os' = s.os := os
 exact ⟨v, H', I.call (h' := hh) (g' := g) (d' := d) (t' := t) (ch := []) un hok bare (fun b z => absurd z (by simp)), r, q⟩
end
noncomputable def tCall (sp : Sp) (dvs : List V) (E : XK) (t : TA) : TE := fun σ H Q => t σ H fun vs H1 => sp (vs ++ dvs) H1 Q E
noncomputable def Binds (K : PySem.W.Frag) (fd : FuncData) (ps : List Str) (ds : List Value) : Prop :=
 ∀ (s : Shared) (us : List Value), K.In s.heap → (us ++ ds).length = ps.length → BindsTo s fd ⟨us, []⟩ (ps.zip (us ++ ds))
theorem Binds.all {K : PySem.W.Frag} {fd : FuncData} {ps : List Str} (h : ∀ us : List Value, us.length = ps.length → bindArgs fd ⟨us, []⟩ = pure (ps.zip us)) : Binds K fd ps [] := fun s us _ hl => by
 rw [List.append_nil] at hl ⊢
 exact .of_eq (h us hl)
noncomputable def Passes (CX : CXT) (X : Cx) (E : XK) : Prop := ∀ (pins : List (Addr × Obj)) (σ : St) (H : Hp) (s : Shared) (e : Value) (s' : Shared), Inv X pins σ H s → CX X.stack H s E e s' → X.xe e s'
section
variable {X : Cx} {CX : CXT} {k : Nat} {f C : Addr} {fd : FuncData} {ps : List Str} {sp : Sp} {dvs : List V} {ds : List Value} {E : XK} {x m : Str} {p pos apos : Pos} {e o : Expr} {es : List Expr} {ta : TE} {t : TA}
theorem run_fn {pins : List (Addr × Obj)} {σ : St} {H : Hp} {s : Shared} {Q : VK} {us : List Value} {vs : List V} (F : FnOk X.prog X.w X.K X.mg X.base CX k f fd ps sp) (hr : Room k X.A) (hb : Binds X.K fd ps ds) (hd : Vals dvs ds) (hx : Passes CX X E)
  (I : Inv X pins σ H s) (r : Vals vs us) (h : sp (vs ++ dvs) H Q E) : wpAny (model X.prog X.w) X.A (call (.ref f) us) (EP X pins σ Q) X.xe s := by
 have r2 : Vals (vs ++ dvs) (us ++ ds) := r.append hd
 have hl : (us ++ ds).length = ps.length := by rw [← r2.length]; exact F.len _ _ _ _ h
 refine wpAny_call (codeAny_mono (F.run X.A X.stack s H ⟨us, []⟩ (us ++ ds) (vs ++ dvs) Q E hr I.env0 (hb s us I.kIn hl) r2 h) fun r s' hq => ?_)
 cases r with
 | error e => exact hx pins σ H s e s' I hq
 | ok fl =>
  cases fl with
  | ret u => exact I.after hq
  | next => exact False.elim hq
  | brk => exact False.elim hq
  | cont => exact False.elim hq
theorem pe_call (F : FnOk X.prog X.w X.K X.mg X.base CX k f fd ps sp) (hr : Room k X.A) (hg : Gl X x) (hm : X.mg x = some (.ref f)) (hk : PySem.W.keepIn X.K (.ref f) = true) (hb : Binds X.K fd ps ds) (hd : Vals dvs ds) (hx : Passes CX X E)
  (ha : PA X (e :: es) t) (hdb : (x == ("__debug__" : Str)) = false := by decide) (he : starEach (e :: es) X.env = (false, eval e X.env) :: starEach es X.env := by rfl) (hpl : (backTo pos (starEach es X.env)).any (·.1) = false := by rfl) :
  PE X (.Call (.Name x p) (e :: es) [] pos) (tCall sp dvs E t) := by
 intro pins s σ H Q I h
 refine wpAny_Call_Name_kw (ld_glob I hg hm ?_ hdb)
 refine PySem.W.callWith_K (h₀ := X.base) I.ok.mod.kin hk (thn (ha pos pins s σ H _ I h) fun us s1 ⟨vs, H1, I1, r, q⟩ => ⟨I1.kIn, ?_⟩) he hpl
 exact run_fn F hr hb hd hx I1 r q
end
section
variable {X : Cx} {CX : CXT} {k : Nat} {f C : Addr} {fd : FuncData} {ps ks : List Str} {sp : Sp} {E : XK} {x m : Str} {p pos apos kpos : Pos} {e o : Expr} {es : List Expr} {kws : List Keyword} {te ta : TE} {t tk : TA} {nm : Option Str}
variable {g : List Value → List Value → List Value} {gV : List V → List V → List V}
end
structure FnScope (N P : List Str) (sc : Scope) : Prop where
 kind : sc.kind = .function
 co : sc.isCoroutine = false
 gen : sc.isGenerator = false
 nd : N.Nodup
 pre : N.take P.length = P
 par : ∀ x ∈ P, sc.names.lookup x = some .local ∨ sc.names.lookup x = some .cell
 nofree : ∀ y ∈ sc.names, y.2 ≠ .free
theorem bindL_out {kindOf : Str → Option NameKind} {x : Str} : ∀ {binds : List (Str × Value)} {m : Str → Option Value}, (∀ v, (x, v) ∉ binds) → bindL kindOf binds m x = m x
 | [], _, _ => rfl
 | (n, v) :: r, m, h => by
  unfold bindL
  rw [bindL_out fun w hw => h w (List.mem_cons_of_mem _ hw)]
  split
  ·have : x ≠ n := by rintro rfl; exact h v List.mem_cons_self
   simp [this]
  ·rfl
theorem bindC_out {kindOf : Str → Option NameKind} {x : Str} : ∀ {binds : List (Str × Value)} {m : Str → Option Value}, (∀ v, (x, v) ∉ binds) → bindC kindOf binds m x = m x
 | [], _, _ => rfl
 | (n, v) :: r, m, h => by
  unfold bindC
  rw [bindC_out fun w hw => h w (List.mem_cons_of_mem _ hw)]
  split
  ·rfl
  ·have : x ≠ n := by rintro rfl; exact h v List.mem_cons_self
   simp [this]
theorem bindL_get {kindOf : Str → Option NameKind} {x : Str} {v : Value} : ∀ {P : List Str} {vs : List Value} {i : Nat} {m : Str → Option Value}, P.Nodup → P[i]? = some x → vs[i]? = some v → kindOf x = some .local →
  bindL kindOf (P.zip vs) m x = some v
 | [], _, _, _, _, h, _, _ => by simp at h
 | _ :: _, [], _, _, _, _, h, _ => by simp at h
 | p :: P, w :: vs, 0, m, nd, h1, h2, hk => by
  simp at h1 h2; subst h1; subst h2
  show bindL kindOf ((p, w) :: P.zip vs) m p = _
  unfold bindL
  rw [bindL_out fun v hv => (List.nodup_cons.mp nd).1 (List.of_mem_zip hv).1, if_pos hk]
  simp
 | p :: P, w :: vs, i + 1, m, nd, h1, h2, hk => by
  show bindL kindOf ((p, w) :: P.zip vs) m x = _
  unfold bindL
  exact bindL_get (i := i) (List.nodup_cons.mp nd).2 (by simpa using h1) (by simpa using h2) hk
theorem bindC_get {kindOf : Str → Option NameKind} {x : Str} {v : Value} : ∀ {P : List Str} {vs : List Value} {i : Nat} {m : Str → Option Value}, P.Nodup → P[i]? = some x → vs[i]? = some v → kindOf x ≠ some .local →
  bindC kindOf (P.zip vs) m x = some v
 | [], _, _, _, _, h, _, _ => by simp at h
 | _ :: _, [], _, _, _, _, h, _ => by simp at h
 | p :: P, w :: vs, 0, m, nd, h1, h2, hk => by
  simp at h1 h2; subst h1; subst h2
  show bindC kindOf ((p, w) :: P.zip vs) m p = _
  unfold bindC
  rw [bindC_out fun v hv => (List.nodup_cons.mp nd).1 (List.of_mem_zip hv).1, if_neg hk]
  simp
 | p :: P, w :: vs, i + 1, m, nd, h1, h2, hk => by
  show bindC kindOf ((p, w) :: P.zip vs) m x = _
  unfold bindC
  exact bindC_get (i := i) (List.nodup_cons.mp nd).2 (by simpa using h1) (by simpa using h2) hk
noncomputable def start (N : List Str) (vs : List V) : St := vs.map some ++ List.replicate (N.length - vs.length) none
noncomputable def cxOf (CX : CXT) (P : Program) (w : World) (K : PySem.W.Frag) (mg : Str → Option Value) (base : Heap) (N : List Str) (qual : Str) (scope : Scope) (f : Addr) (cd : Value) (A : Around) (outer : List Env) (s : Shared) (H : Hp) (E : XK) : Cx where
 prog := P
 w := w
 K := K
 mg := mg
 base := base
 A := A.deeper (envOfC qual scope s.heap.objs.size f cd)
 N := N
 s₀ := s
 H₀ := H
 env := envOfC qual scope s.heap.objs.size f cd
 outer := outer
 stack := envOfC qual scope s.heap.objs.size f cd :: outer
 ex := []
 calm := true
 fn := fun _ => true
 pn := []
 xe := fun e s' => wpAny (model P w) (A.deeper (envOfC qual scope s.heap.objs.size f cd)) (leaving (envOfC qual scope s.heap.objs.size f cd) e) (fun _ s'' => CX outer H s E e s'') (fun e' s'' => CX outer H s E e' s'') s'
theorem cell_has {sc : Scope} {n : Nat} {x : Str} (h : sc.names.lookup x = some .cell) : ∃ c, (cellsFrom n sc.names []).lookup x = some c := by
 have q := PySem.W.cellsFrom_some sc.names n [] (.inl h)
 exact Option.isSome_iff_exists.mp q
theorem inv_start {CX : CXT} {P : Program} {w : World} {K : PySem.W.Frag} {mg : Str → Option Value} {base : Heap} {N ps : List Str} {qual : Str} {scope : Scope} {f : Addr} {cd : Value} {A : Around} {outer : List Env} {s s1 : Shared} {H : Hp} {E : XK} {us : List Value} {vs : List V}
  (S : FnScope N ps scope) (hd : A.handled = none) (e0 : Env0 P w K mg base A outer s H) (hl : vs.length = ps.length) (r : Vals vs us)
  (x : InCallC s s.heap.objs.size (bindL (envOfC qual scope s.heap.objs.size f cd).kindOf (ps.zip us) fun _ => none) (cellsFrom (s.heap.objs.size + 1) scope.names []) (bindC (envOfC qual scope s.heap.objs.size f cd).kindOf (ps.zip us) fun _ => none) s1) :
  Inv (cxOf CX P w K mg base N qual scope f cd A outer s H E) [] (start N vs) H s1 := by
 have hpl : ps.length ≤ N.length := by have := congrArg List.length S.pre; rw [List.length_take] at this; lia
 obtain ⟨h1, tk, rfl, hk⟩ := x.done
 have noA : ∀ b : Addr, b ∉ (cxOf CX P w K mg base N qual scope f cd A outer s H E).ex := fun b z => absurd (show b ∈ ([] : List Addr) from z) (by simp)
 refine ⟨⟨e0.mod, S.kind, rfl, rfl, Nat.le_refl _, fun y z c h1 h2 => ?_, fun y hy => ?_, fun y c _ h => ?_, fun _ => hd, Around.frames_deeper e0.frames, .inr ⟨rfl, rfl⟩, fun b z => absurd z (noA b), e0.bs, e0.bsz, fun b _ _ => noA b, fun b z => absurd z (noA b), e0.funs, e0.frf⟩,
  rfl, e0.bare, Un.kept hk, ⟨_, x.toInCall.ns, fun i y v h1 h2 h3 => ?_⟩, fun y c h => ⟨_, x.cell y c h⟩, e0.hok.fresh (Nat.le_refl _), fun y c h => ?_, fun p hp => absurd (show p ∈ ([] : List (Addr × Obj)) from hp) (by simp), e0.hok.kept hk, ?_⟩
 ·exact name_of_addr x.apart (PySem.mem_of_lookup h1) (PySem.mem_of_lookup h2)
 ·have hy : scope.names.lookup y = some .cell ∨ scope.names.lookup y = some .free := hy
  rcases hy with hy | hy
  ·exact cell_has hy
  ·exact absurd rfl (S.nofree _ (PySem.mem_of_lookup hy))
 ·exact Nat.le_of_lt (x.above y c (PySem.mem_of_lookup h))
 ·have hi : i < vs.length := by
   unfold start at h2
   by_cases hi : i < vs.length
   ·exact hi
   ·rw [List.getElem?_append_right (by simpa using hi)] at h2
    rw [List.getElem?_replicate] at h2
    split at h2 <;> cases h2
  have ha : vs[i]? = some v := by
   unfold start at h2
   rw [List.getElem?_append_left (by simpa using hi), List.getElem?_map] at h2
   cases e : vs[i]? with
   | none => rw [e] at h2; cases h2
   | some a => rw [e] at h2; cases h2; rfl
  obtain ⟨u, hu, rv⟩ := r.get ha
  have hp : ps[i]? = some y := by
   rw [← S.pre, List.getElem?_take_of_lt (by lia)]; exact h1
  have ndP : ps.Nodup := by rw [← S.pre]; exact S.nd.sublist (List.take_sublist _ _)
  refine ⟨u, rv, ?_⟩
  rcases S.par y (List.mem_of_getElem? hp) with k | k
  ·exact .inl ⟨k, bindL_get ndP hp hu k⟩
  ·obtain ⟨c, e⟩ := cell_has (n := s.heap.objs.size + 1) k
   refine .inr ⟨.inl k, c, e, ?_⟩
   have q := x.cell y c e
   rw [bindC_get ndP hp hu (by show scope.names.lookup y ≠ _; rw [k]; decide)] at q
   exact q
 ·exact e0.hok.fresh (Nat.le_of_lt (x.above y c (PySem.mem_of_lookup h)))
 ·unfold start
  show _ = N.length
  rw [List.length_append, List.length_map, List.length_replicate]
  lia
theorem fn_of {CX : CXT} {P : Program} {w : World} {K : PySem.W.Frag} {mg : Str → Option Value} {base : Heap} {k : Nat} {f : Addr} {name qual : Str} {params : Arguments} {body : List Stmt} {scope : Scope} {dV kV doc pm cdv ct oc : Value} {an od : Option Addr}
  {osl : Array (Option Value)} {N ps : List Str} {sp : Sp} (lk : K.lookup f = some ⟨oc, od, .func (PySem.W.fnOf name qual params body scope dV kV doc pm an cdv ct), osl⟩) (hcd : PySem.W.codeIn K cdv qual = true) (S : FnScope N ps scope)
  (len : ∀ vs H Q E, sp vs H Q E → vs.length = ps.length)
  (hbody : ∀ (A : Around) (outer : List Env) (s : Shared) (H : Hp) (vs : List V) (Q : VK) (E : XK), Room k (A.deeper (envOfC qual scope s.heap.objs.size f cdv)) → sp vs H Q E →
   ∃ t, PSs (cxOf CX P w K mg base N qual scope f cdv A outer s H E) body t ∧ t { nx := fun _ H' => Q .non H', rt := Q } (start N vs) H) :
  FnOk P w K mg base CX (k + 1) f (PySem.W.fnOf name qual params body scope dV kV doc pm an cdv ct) ps sp := by
 refine ⟨len, fun A outer s H args us vs Q E hr e0 hb r hsp => ?_⟩
 have hl := len _ _ _ _ hsp
 have KX : K.In s.heap := e0.mod.kin.keeps fun b o e => (e0.bs b o e).1
 have lim : s.heap.NoLimit := e0.mod.nolimit.keeps fun b o e => (e0.bs b o e).1
 have hkind : ∀ y ∈ ps.zip us, scope.names.lookup y.1 = some .local ∨ (scope.names.lookup y.1 = some .cell ∧ ((cellsFrom (s.heap.objs.size + 1) scope.names []).lookup y.1).isSome = true) := fun hX11_ hy => by
  obtain ⟨n, v⟩ := hX11_
  rcases S.par n (List.of_mem_zip hy).1 with q | q
  ·exact .inl q
  ·exact .inr ⟨q, PySem.W.cellsFrom_some _ _ _ (.inl q)⟩
 refine codeAny_call_function hr.depth (KX _ _ lk) rfl S.co S.gen rfl (PySem.W.codeRec_of KX hcd) (hb _ _ _ _ ?_)
 refine wpAny_newFunctionEnv_cells S.kind hkind fun env he s1 x => ?_
 subst he
 refine ⟨lim.keeps x.toInCall.keep, codeAny_func ?_⟩
 obtain ⟨t, ht, hq⟩ := hbody A outer s H vs Q E (hr.deeper _) hsp
 have I : Inv (cxOf CX P w K mg base N qual scope f cdv A outer s H E) [] (start N vs) H s1 := inv_start S hr.hd e0 hl r x
 refine wpAny_mono (ht [] s1 (start N vs) H _ I hq) (fun fl s' hs => ?_) fun e s' hs => hs
 have fin : ∀ {σ' : St} {H' : Hp} {v : V} {u : Value}, Inv (cxOf CX P w K mg base N qual scope f cdv A outer s H E) [] σ' H' s' → RelV v u → Q v H' → CE outer P w H s Q u s' :=
  fun {σ' H' v u} J rv q => ⟨v, H', J.os, J.bare, J.base, J.hok, rv, q⟩
 cases fl with
 | ret u =>
  obtain ⟨v, σ', H', J, rv, q⟩ := hs
  exact fin J rv q
 | next =>
  obtain ⟨σ', H', J, q⟩ := hs
  exact fin (v := V.non) (u := Value.none) J rfl q
 | brk =>
  obtain ⟨_, _, _, q⟩ := hs
  exact False.elim q
 | cont =>
  obtain ⟨_, _, _, q⟩ := hs
  exact False.elim q
end L2
namespace L2
open PySem PySem.Spec PyProof.Rows
section
variable {X : Cx} {x : Str} {p pos : Pos} {e : Expr} {es : List Expr} {t : TA} {id T : String} {r : List V → Hp → VK → Prop}
noncomputable def tCB (r : List V → Hp → VK → Prop) (t : TA) : TE := fun σ H Q => t σ H fun vs H1 => r vs H1 Q
theorem pe_callB (hc : CallR X (.builtin id) r) (hg : Gl X x) (hm : X.mg x = none) (hv : bootBuiltins x = some (.builtin id)) (ha : PA X (e :: es) t) (hn : x ≠ "__name__" := by decide) (hdb : (x == ("__debug__" : Str)) = false := by decide)
  (he : starEach (e :: es) X.env = (false, eval e X.env) :: starEach es X.env := by rfl) (hpl : (backTo pos (starEach es X.env)).any (·.1) = false := by rfl) : PE X (.Call (.Name x p) (e :: es) [] pos) (tCB r t) := by
 intro pins s σ H Q I h
 refine wpAny_Call_Name_kw (ld_blt I hg hm hv ?_ hn hdb)
 exact PyProof.Rows.callWith_builtin1 (thn (ha pos pins s σ H _ I h) fun us s1 ⟨vs, H1, I1, r1, q1⟩ => hc pins s1 σ H1 vs us Q I1 r1 q1) he hpl
theorem pe_callTy (hc : CallR X (.type T) r) (hg : Gl X x) (hm : X.mg x = none) (hv : bootBuiltins x = some (.type T)) (ha : PA X (e :: es) t) (hn : x ≠ "__name__" := by decide) (hdb : (x == ("__debug__" : Str)) = false := by decide)
  (he : starEach (e :: es) X.env = (false, eval e X.env) :: starEach es X.env := by rfl) (hpl : (backTo pos (starEach es X.env)).any (·.1) = false := by rfl) : PE X (.Call (.Name x p) (e :: es) [] pos) (tCB r t) := by
 intro pins s σ H Q I h
 refine wpAny_Call_Name_kw (ld_blt I hg hm hv ?_ hn hdb)
 exact PyProof.Rows.callWith_type1 (thn (ha pos pins s σ H _ I h) fun us s1 ⟨vs, H1, I1, r1, q1⟩ => hc pins s1 σ H1 vs us Q I1 r1 q1) he hpl
end
end L2
namespace HT
open PySem PyProof.Rows
section
open PySem.SeqAt
open PySem.AutoSeq1 (wpAny_loadPart')
open PySem.MeetsSeq PySem.MeetsSeq2 PySem.MeetsSeq3
end
section
variable {prog : Program} {w : World} {A : Around} {E : Value → Shared → Prop} {s : Shared}
theorem cat_tup {t b : Addr} {vs ws : List Value} {Q : Value → Shared → Prop} (ht : IsTup s.heap t vs.toArray) (hb : IsTup s.heap b ws.toArray) (hv : vs ≠ [])
  (h1 : ws = [] → Q (.ref t) s) (h2 : ws ≠ [] → Q (.ref s.heap.objs.size) { s with heap := s.heap.push { cls := .type "tuple", data := .seq (vs ++ ws).toArray } })
  (hsz : vs.length + ws.length ≤ sizeLine) : wpAny (model prog w) A (binaryOp .Add (.ref t) (.ref b)) Q E s := by
 obtain ⟨⟨cls, dd, data, sl⟩, ho, hc, n, hd⟩ := id ht
 obtain ⟨⟨cls2, dd2, data2, sl2⟩, ho2, hc2, n2, hd2⟩ := id hb
 simp only at hc hd hc2 hd2
 subst hc hd hc2 hd2
 have e : vs.toArray ++ ws.toArray = (vs ++ ws).toArray := by simp
 by_cases hw : ws = []
 ·exact concat_meets ⟨_, ho, rfl⟩ ⟨_, ho2, rfl⟩ noFill_tuple_add seq_tuple_add PySem.F.slot_tuple_add PySem.F.entry_tuple_add (PySem.F.args_tuple_add_2 _ _)
   (tuple_addW1 t b vs.toArray ws.toArray n n2 dd dd2 sl sl2 (by simpa using hv) (by simp [hw])) ⟨ho, ho2, h1 hw⟩
 ·refine concat_meets ⟨_, ho, rfl⟩ ⟨_, ho2, rfl⟩ noFill_tuple_add seq_tuple_add PySem.F.slot_tuple_add PySem.F.entry_tuple_add (PySem.F.args_tuple_add_2 _ _)
   (tuple_addW2 t b vs.toArray ws.toArray n n2 dd dd2 sl sl2 (by simpa using hv) (by simpa using hw) (by rw [List.size_toArray, List.size_toArray]; exact hsz)) ⟨ho, ho2, ?_⟩
  rw [e]
  exact h2 hw
end
end HT
namespace L2
open PySem PySem.Spec PyProof.Rows
noncomputable abbrev TO := St → Hp → (Option Int → Hp → Prop) → Prop
noncomputable def PO (X : Cx) (e : Option Expr) (t : TO) : Prop :=
 ∀ (pins : List (Addr × Obj)) (s : Shared) (σ : St) (H : Hp) (Q : Option Int → Hp → Prop), Inv X pins σ H s → t σ H Q →
  wpAny (model X.prog X.w) X.A (evalPart e X.env) (fun u s' => ∃ o H', Inv X pins σ H' s' ∧ IsPart u o ∧ Q o H') X.xe s
theorem intsAre_of {ns : List Int} : ∀ {us : List Value}, Vals (ns.map V.int) us → IntsAre us ns := by
 induction ns with
 | nil => intro us r; rw [List.map_nil] at r; cases r; exact .nil
 | cons n ns ih =>
  intro us r
  rw [List.map_cons] at r
  cases r with
  | cons r1 r2 =>
   obtain ⟨t, e⟩ := r1
   subst e
   exact .cons n t (ih r2)
section
variable {X : Cx} {e : Expr} {te : TE} {lo hi : Option Expr} {tl th : TO} {pos p2 : Pos}
noncomputable def rCatT (K : PySem.W.Frag) : R2 := fun x y H Q => ∃ a b xs ys, x = .ref a ∧ y = .ref b ∧ SqT K H a xs ∧ SqT K H b ys ∧ xs ≠ [] ∧ xs.length + ys.length ≤ sizeLine ∧
 (ys = [] → Q (.ref a) H) ∧ (ys ≠ [] → ∀ p, H p = none → Q (.ref p) (upd H p (.tup (xs ++ ys))))
theorem Vals.nil_iff {xs : List V} {us : List Value} (r : Vals xs us) : us = [] ↔ xs = [] := by
 cases r with
 | nil => simp
 | cons _ _ => simp
theorem op_catT : OpR X (binaryOp .Add) (rCatT X.K) := by
 intro pins s σ H x y v u Q I rx ry h
 obtain ⟨a, b, xs, ys, rfl, rfl, ha, hb, hx, hz, q1, q2⟩ := h
 cases rx
 cases ry
 obtain ⟨its, r1, p1, _⟩ := I.tuple ha
 obtain ⟨its2, r2, p2, _⟩ := I.tuple hb
 refine HT.cat_tup p1 p2 (fun z => hx (r1.nil_iff.mp z)) (fun z => ⟨.ref a, H, I, rfl, q1 (r2.nil_iff.mp z)⟩) (fun z => ?_) (by rw [← r1.length, ← r2.length]; exact hz)
 refine ⟨.ref s.heap.objs.size, _, I.laid (t' := s.toks) (o := .tup (xs ++ ys)) (fun b ob q => Heap.get?_push_of_some _ q) (Nat.le_refl _) ?_, rfl, q2 (fun w => z (r2.nil_iff.mpr w)) _ (I.hok.fresh (Nat.le_refl _))⟩
 exact ⟨by rw [List.length_append]; exact hz, _, r1.append r2, IsTup.new _ _⟩
end
end L2
namespace L2
open PySem PySem.Spec PyProof.Rows
noncomputable def ixN (n : Nat) (i : Int) : Option Nat := if 0 ≤ i then (if i < n then some i.toNat else none) else if -(n : Int) ≤ i then some (i + n).toNat else none
noncomputable def atI {α : Type} (xs : List α) (i : Int) : Option α := (ixN xs.length i).bind fun j => xs[j]?
theorem ixN_seq {n : Nat} {i : Int} {j : Nat} (h : ixN n i = some j) : seqIndex? i n = some j ∧ j < n ∧ -(n : Int) ≤ i ∧ i < n := by
 unfold ixN at h
 by_cases h0 : 0 ≤ i
 ·rw [if_pos h0] at h
  by_cases h1 : i < n
  ·rw [if_pos h1] at h
   have e : i.toNat = j := Option.some.inj h
   exact ⟨by rw [seqIndex_of h0 h1, e], by lia, by lia, h1⟩
  ·rw [if_neg h1] at h; cases h
 ·rw [if_neg h0] at h
  by_cases h1 : -(n : Int) ≤ i
  ·rw [if_pos h1] at h
   have e : (i + n).toNat = j := Option.some.inj h
   exact ⟨by rw [seqIndex_neg (by lia) h1, e], by lia, h1, by lia⟩
  ·rw [if_neg h1] at h; cases h
theorem atI_get {α : Type} {xs : List α} {i : Int} {v : α} (h : atI xs i = some v) : ∃ j, seqIndex? i xs.length = some j ∧ xs[j]? = some v ∧ j < xs.length ∧ -(xs.length : Int) ≤ i ∧ i < xs.length := by
 unfold atI at h
 cases e : ixN xs.length i with
 | none => rw [e] at h; cases h
 | some j =>
  rw [e] at h
  obtain ⟨h1, h2, h3, h4⟩ := ixN_seq e
  exact ⟨j, h1, h, h2, h3, h4⟩
noncomputable def PlainIx (b : Expr) : Prop := ∀ o i, subscripted b false o i = operate [o, i] (getItem o i)
noncomputable def IxR (X : Cx) (r : R2) : Prop :=
 ∀ (value slice : Expr) (pins : List (Addr × Obj)) (s : Shared) (σ : St) (H : Hp) (x y : V) (v u : Value) (Q : VK), Inv X pins σ H s → RelV x v → RelV y u → r x y H Q →
  subscripted slice false v u = operate [v, u] (getItem v u) → wpAny (model X.prog X.w) X.A (subscriptTail value slice v u) (EP X pins σ Q) X.xe s
noncomputable def MtR (X : Cx) (id : String) (r : V → List V → Hp → VK → Prop) : Prop :=
 ∀ (pins : List (Addr × Obj)) (s : Shared) (σ : St) (H : Hp) (x : V) (xs : List V) (v : Value) (us : List Value) (Q : VK), Inv X pins σ H s → RelV x v → Vals xs us → r x xs H Q →
  wpAny (model X.prog X.w) X.A (call (.builtin id) (v :: us)) (EP X pins σ Q) X.xe s
section
variable {X : Cx} {a b : Expr} {ta tb : TE} {pos : Pos}
theorem IxR.or {r r' : R2} (h : IxR X r) (h' : IxR X r') : IxR X (fun x y H Q => r x y H Q ∨ r' x y H Q) := by
 intro value slice pins s σ H x y v u Q I rx ry q hs
 rcases q with q | q
 ·exact h value slice pins s σ H x y v u Q I rx ry q hs
 ·exact h' value slice pins s σ H x y v u Q I rx ry q hs
theorem pe_ix {r : R2} (hr : IxR X r) (ha : PE X a ta) (hb : PE X b tb) (hs : PlainIx b) : PE X (.Subscript a b pos) (tOp r ta tb) := by
 intro pins s σ H Q I h
 exact Subscript_ (binT ha hb I h fun v u s2 x y H2 I2 rx ry q => hr a b pins s2 σ H2 x y v u Q I2 rx ry q (hs _ _))
noncomputable def rIxL (K : PySem.W.Frag) : R2 := fun x y H Q => ∃ p xs i v, x = .ref p ∧ y = .int i ∧ SqL K H p xs ∧ atI xs i = some v ∧ Q v H
noncomputable def rIxT (K : PySem.W.Frag) : R2 := fun x y H Q => ∃ p xs i v, x = .ref p ∧ y = .int i ∧ SqT K H p xs ∧ atI xs i = some v ∧ Q v H
noncomputable def rIxS : R2 := fun x y H Q => ∃ z i c, x = .str z ∧ y = .int i ∧ z.length ≤ sizeLine ∧ atI z.cps.toList i = some c ∧ Q (.str ⟨#[c]⟩) H
theorem ix_list : IxR X (rIxL X.K) := by
 intro value slice pins s σ H x y v u Q I rx ry h hs
 obtain ⟨p, xs, i, z, rfl, rfl, hq, he, q⟩ := h
 cases rx
 obtain ⟨t, rfl⟩ := ry
 obtain ⟨its, r, pl, hz⟩ := I.list hq
 obtain ⟨j, h1, h2, h3, h4, h5⟩ := atI_get he
 obtain ⟨w, ew, rw'⟩ := r.get h2
 have hl := r.length
 have hn := line63
 have fin : EP X pins σ Q w s := ⟨z, H, I, rw', q⟩
 by_cases h0 : 0 ≤ i
 ·have hj : i.toNat = j := by
   rw [seqIndex_of h0 h5] at h1
   exact Option.some.inj h1
  exact item_listR pl.isList h0 (by lia) (by rw [hj]; simpa using ew) fin hs
 ·have hj : (i + (its.toArray.size : Int)).toNat = j := by
   rw [seqIndex_neg (by lia) h4] at h1
   rw [List.size_toArray, ← hl]
   exact Option.some.inj h1
  exact subscriptTail_builtinR (x := w) pl.isList.typeIs slot_list_getitem.lookup
   (wpAny_getItem_list_neg (Q := fun r s' => r = w ∧ EP X pins σ Q r s') pl.isList (by lia) (by rw [List.size_toArray] <;> lia) (by lia) (by rw [hj]; simpa using ew) ⟨rfl, fin⟩) hs
theorem ix_tup : IxR X (rIxT X.K) := by
 intro value slice pins s σ H x y v u Q I rx ry h hs
 obtain ⟨p, xs, i, z, rfl, rfl, hq, he, q⟩ := h
 cases rx
 obtain ⟨t, rfl⟩ := ry
 obtain ⟨its, r, pl, hz⟩ := I.tuple hq
 obtain ⟨j, h1, h2, h3, h4, h5⟩ := atI_get he
 obtain ⟨w, ew, rw'⟩ := r.get h2
 have hl := r.length
 have hn := line63
 have fin : EP X pins σ Q w s := ⟨z, H, I, rw', q⟩
 exact subscriptTail_builtinR (x := w) pl.typeIs slot_tuple_getitem.lookup
  (getItem_tuple (j := j) (Q := fun r s' => r = w ∧ EP X pins σ Q r s') pl (by lia) (by lia) (by rw [List.size_toArray, ← hl]; exact h1) (by simpa using ew) ⟨rfl, fin⟩) hs
theorem ix_str : IxR X rIxS := by
 intro value slice pins s σ H x y v u Q I rx ry h hs
 obtain ⟨z, i, c, rfl, rfl, hz, he, q⟩ := h
 obtain ⟨t, rfl⟩ := rx
 obtain ⟨t', rfl⟩ := ry
 obtain ⟨j, h1, h2, h3, h4, h5⟩ := atI_get he
 have hl : z.cps.toList.length = z.length := by simp [Str.length]
 rw [hl] at h1 h4 h5
 have hn := line63
 exact tail_any (typeIs_str s z t) slot_str_getitem.lookup (getItem_str (c := c) (by
  have e1 : decide (i < -(2 ^ 63 : Int)) = false := decide_eq_false (by lia)
  have e2 : decide (i ≥ 2 ^ 63) = false := decide_eq_false (by lia)
  rw [e1, e2, Bool.or_false]) (by rw [h1]; simpa using h2) ⟨.str ⟨#[c]⟩, H, I.tok _, ⟨_, rfl⟩, q⟩) hs
noncomputable def rIx (K : PySem.W.Frag) : R2 := fun x y H Q => rIxL K x y H Q ∨ rIxT K x y H Q ∨ rIxS x y H Q
theorem ix_seq : IxR X (rIx X.K) := ix_list.or (ix_tup.or ix_str)
theorem mapSeq_set (its : List Value) (n j : Nat) (u : Value) : Obj.mapSeq (·.setIfInBounds j u) { cls := .type "list", data := .seq its.toArray n } = { cls := .type "list", data := .seq (its.set j u).toArray n } := by
 simp [Obj.mapSeq]
theorem Inv.lst {pins : List (Addr × Obj)} {σ : St} {H : Hp} {s : Shared} {p : Addr} {xs : List V} (I : Inv X pins σ H s) (h : H p = some (.lst xs)) :
  ∃ (its : List Value) (n : Nat), Vals xs its ∧ s.heap.get? p = some { cls := .type "list", data := .seq its.toArray n } ∧ xs.length ≤ sizeLine := by
 obtain ⟨z, its, n, r, e⟩ := I.hok p _ h
 exact ⟨its, n, r, e, z⟩
theorem Inv.lstUpd {pins : List (Addr × Obj)} {σ : St} {H : Hp} {s : Shared} {p : Addr} {xs ys : List V} {its its' : List Value} {n n' : Nat} {f : Obj → Obj} (I : Inv X pins σ H s) (h : H p = some (.lst xs))
  (ho : s.heap.get? p = some { cls := .type "list", data := .seq its.toArray n }) (hf : f { cls := .type "list", data := .seq its.toArray n } = { cls := .type "list", data := .seq its'.toArray n' }) (r : Vals ys its') (hz : ys.length ≤ sizeLine) (t : Nat) :
  Inv X pins σ (upd H p (.lst ys)) { s with heap := s.heap.update p f, toks := t } := by
 have e : (s.heap.update p f).get? p = some { cls := .type "list", data := .seq its'.toArray n' } := by
  rw [Heap.get?_update_self f ho (by rw [hf] <;> rfl), hf]
 refine I.write (x := p) (e := p) (by rw [h]; trivial) (.inl rfl) (fun b u hb q => (Heap.get?_update_other _ _ (Ne.symm hb)).trans q) ⟨_, e⟩ ?_
 exact ⟨hz, its', n', r, e⟩
noncomputable def rSetL : V → V → V → Hp → (Hp → Prop) → Prop := fun o i v H Q => ∃ p xs k j, o = .ref p ∧ i = .int k ∧ H p = some (.lst xs) ∧ ixN xs.length k = some j ∧ Q (upd H p (.lst (xs.set j v)))
theorem set_list : PSet X rSetL := by
 intro pins s σ H o i v ov iv u Q I ro ri rv h
 obtain ⟨p, xs, k, j, rfl, rfl, hp, hj, q⟩ := h
 cases ro
 obtain ⟨t, rfl⟩ := ri
 obtain ⟨its, n, r, ho, hz⟩ := I.lst hp
 obtain ⟨h1, h2, h3, h4⟩ := ixN_seq hj
 have hl := r.length
 have hn := line63
 have I' : Inv X pins σ (upd H p (.lst (xs.set j v))) { s with heap := s.heap.update p (Obj.mapSeq (·.setIfInBounds j u)) } :=
  I.lstUpd hp ho (mapSeq_set its n j u) (r.set rv j) (by rw [List.length_set]; exact hz) s.toks
 by_cases h0 : 0 ≤ k
 ·have hk : k.toNat = j := by
   rw [seqIndex_of h0 h4] at h1
   exact Option.some.inj h1
  exact PySem.W.ki_setAt ho h0 (by lia) (by rw [List.size_toArray, ← hl]; exact h4) (by rw [hk]; exact ⟨_, I', q⟩)
 ·have hk : (k + (its.toArray.size : Int)).toNat = j := by
   rw [seqIndex_neg (by lia) h3] at h1
   rw [List.size_toArray, ← hl]
   exact Option.some.inj h1
  exact PySem.W.ki_setBack ho (by lia) (by rw [List.size_toArray, ← hl]; exact h3) (by lia) (by rw [hk]; exact ⟨_, I', q⟩)
theorem call_len_seq : CallR X (.builtin "len") (fun xs H Q => ∃ p ys, xs = [.ref p] ∧ (SqL X.K H p ys ∨ SqT X.K H p ys) ∧ Q (.int ys.length) H) := by
 intro pins s σ H xs us Q I r h
 obtain ⟨p, ys, rfl, hq, q⟩ := h
 obtain ⟨u, rfl, rx⟩ := vals1 r
 cases rx
 have hn := line63
 rcases hq with hq | hq
 ·obtain ⟨its, r', pl, hz⟩ := I.list hq
  have hlen := r'.length
  exact Calls.call_len_list pl.isList (by simp only [List.size_toArray] <;> lia) ⟨.int ys.length, H, I.tok _, ⟨s.toks + 1, by rw [List.size_toArray, hlen]⟩, q⟩
 ·obtain ⟨its, r', pl, hz⟩ := I.tuple hq
  have hlen := r'.length
  exact len_tuple pl (by simp only [List.size_toArray] <;> lia) ⟨.int ys.length, H, I.tok _, ⟨s.toks + 1, by rw [List.size_toArray, hlen]⟩, q⟩
theorem call_len_str : CallR X (.builtin "len") (fun xs H Q => ∃ z, xs = [.str z] ∧ z.length ≤ sizeLine ∧ Q (.int z.length) H) := by
 intro pins s σ H xs us Q I r h
 obtain ⟨z, rfl, hz, q⟩ := h
 obtain ⟨u, rfl, t, rfl⟩ := vals1 r
 have hn := line63
 exact len_str (by lia) ⟨.int z.length, H, I.tok _, ⟨_, rfl⟩, q⟩
theorem CallR.or {f : Value} {r r' : List V → Hp → VK → Prop} (h : CallR X f r) (h' : CallR X f r') : CallR X f (fun xs H Q => r xs H Q ∨ r' xs H Q) := by
 intro pins s σ H xs us Q I rs q
 rcases q with q | q
 ·exact h pins s σ H xs us Q I rs q
 ·exact h' pins s σ H xs us Q I rs q
theorem call_list_of : CallR X (.type "list") (fun xs H Q => ∃ p ys, xs = [.ref p] ∧ (SqL X.K H p ys ∨ SqT X.K H p ys) ∧ ∀ l, H l = none → Q (.ref l) (upd H l (.lst ys))) := by
 intro pins s σ H xs us Q I r h
 obtain ⟨p, ys, rfl, hq, q⟩ := h
 obtain ⟨u, rfl, rx⟩ := vals1 r
 cases rx
 have fin : ∀ (its : List Value), Vals ys its → ys.length ≤ sizeLine → ∀ (h' : Heap) (c' : Nat), (∀ b o', s.heap.get? b = some o' → h'.get? b = some o') →
   h'.get? s.heap.objs.size = some { cls := .type "list", dict := none, data := .seq its.toArray c', slots := #[] } → EP X pins σ Q (.ref s.heap.objs.size) { s with heap := h' } := fun its r' hz h' c' kp e =>
  ⟨.ref s.heap.objs.size, _, I.laid (t' := s.toks) kp (Nat.le_refl _) (show ObjOk X.prog X.w _ h' _ (.lst ys) from ⟨hz, its, c', r', e⟩), rfl, q _ (I.hok.fresh (Nat.le_refl _))⟩
 rcases hq with hq | hq
 ·obtain ⟨its, r', pl, hz⟩ := I.list hq
  have hlen := r'.length
  obtain ⟨o, ho, hc, n, hd⟩ := pl.isList
  exact call_list_seq p (.inl rfl) ho hc hd (fun h' c' kp e => fin its r' hz h' c' kp e) (by simp only [List.size_toArray] <;> lia)
 ·obtain ⟨its, r', pl, hz⟩ := I.tuple hq
  have hlen := r'.length
  obtain ⟨o, ho, hc, n, hd⟩ := pl
  exact call_list_seq p (.inr rfl) ho hc hd (fun h' c' kp e => fin its r' hz h' c' kp e) (by simp only [List.size_toArray] <;> lia)
theorem call_tuple_of : CallR X (.type "tuple") (fun xs H Q => ∃ p ys, xs = [.ref p] ∧ ((SqL X.K H p ys ∧ ∀ l, H l = none → Q (.ref l) (upd H l (.tup ys))) ∨ (SqT X.K H p ys ∧ Q (.ref p) H))) := by
 intro pins s σ H xs us Q I r h
 obtain ⟨p, ys, rfl, h⟩ := h
 obtain ⟨u, rfl, rx⟩ := vals1 r
 cases rx
 rcases h with ⟨hq, q⟩ | ⟨hq, q⟩
 ·obtain ⟨its, r', pl, hz⟩ := I.list hq
  have hlen := r'.length
  refine call_tuple_list pl.isList (fun h' kp => ?_) (by simp only [List.size_toArray] <;> lia)
  have I1 : Inv X pins σ H { s with heap := h' } := I.kept (t' := s.toks) kp
  have I2 : Inv X pins σ (upd H h'.objs.size (.tup ys)) { s with heap := h'.push { cls := .type "tuple", data := .seq its.toArray } } :=
   I1.laid (t' := s.toks) (fun b o e => Heap.get?_push_of_some _ e) (Nat.le_refl _) (show ObjOk X.prog X.w _ _ _ (.tup ys) from ⟨hz, its, r', IsTup.new _ _⟩)
  exact ⟨.ref h'.objs.size, _, I2, rfl, q _ (I1.hok.fresh (Nat.le_refl _))⟩
 ·obtain ⟨its, r', pl, hz⟩ := I.tuple hq
  exact call_tuple_same pl ⟨.ref p, H, I, rfl, q⟩
noncomputable def tyV (K : PySem.W.Frag) (T : String) (x : V) (H : Hp) : Prop := match x with
 | .str _ => T = "str"
 | .int _ => T = "int"
 | .ref p => (T = "list" ∧ ∃ xs, SqL K H p xs) ∨ (T = "tuple" ∧ ∃ o, K.lookup p = some o ∧ o.cls = .type "tuple" ∧ o.dict = none) ∨
   (T = "dict" ∧ ((∃ kvs, H p = some (.dK kvs)) ∨ ∃ kvs, H p = some (.dT kvs))) ∨ (T = "set" ∧ ∃ S n, H p = some (.set S n))
 | _ => False
theorem tyV_is {pins : List (Addr × Obj)} {σ : St} {H : Hp} {s : Shared} {T : String} {x : V} {v : Value} (I : Inv X pins σ H s) (r : RelV x v) (ty : tyV X.K T x H) :
  s.TypeIs v T ∧ ∀ a, v = .ref a → ∃ ob, s.heap.get? a = some ob ∧ ob.dict = none := by
 cases x with
 | str z =>
  obtain ⟨t, rfl⟩ := r
  cases (show T = "str" from ty)
  exact ⟨typeIs_str s z t, fun _ e => nomatch e⟩
 | int i =>
  obtain ⟨t, rfl⟩ := r
  cases (show T = "int" from ty)
  exact ⟨typeIs_int s i t, fun _ e => nomatch e⟩
 | ref p =>
  cases r
  rcases ty with ⟨rfl, xs, hq⟩ | ⟨rfl, o, hk, hc, hd⟩ | ⟨rfl, hk⟩ | ⟨rfl, S, n, hk⟩
  ·obtain ⟨its, _, pl, _⟩ := I.list hq
   refine ⟨pl.isList.typeIs, fun a e => ?_⟩
   cases e
   obtain ⟨o, n, e, c, hd, _⟩ := pl
   exact ⟨o, e, hd⟩
  ·refine ⟨⟨o, I.kIn p o hk, hc⟩, fun a e => ?_⟩
   cases e
   exact ⟨o, I.kIn _ o hk, hd⟩
  ·have z : ∃ o, s.heap.get? p = some o ∧ o.ExactDict := by
    rcases hk with ⟨kvs, hk⟩ | ⟨kvs, hk⟩
    ·obtain ⟨_, _, _, _, o, _, _, e, ex, _⟩ := I.hok p _ hk
     exact ⟨o, e, ex⟩
    ·obtain ⟨_, _, _, _, o, _, _, e, ex, _⟩ := I.hok p _ hk
     exact ⟨o, e, ex⟩
   obtain ⟨o, e, ex⟩ := z
   refine ⟨⟨o, e, ex.1⟩, fun a e2 => ?_⟩
   cases e2
   exact ⟨o, e, ex.2.1⟩
  ·obtain ⟨o, _, _, _, e, ex, _⟩ := I.hok p _ hk
   refine ⟨⟨o, e, ex.1⟩, fun a e2 => ?_⟩
   cases e2
   exact ⟨o, e, ex.2.1⟩
 | _ => exact False.elim ty
noncomputable def tBM (K : PySem.W.Frag) (T : String) (r : V → List V → Hp → VK → Prop) (to : TE) (t : TA) : TE := fun σ H Q => to σ H fun x H1 => tyV K T x H1 ∧ t σ H1 fun xs H2 => r x xs H2 Q
variable {o e : Expr} {es : List Expr} {to : TE} {t : TA} {name : Str} {apos cpos : Pos} {T id : String} {r : V → List V → Hp → VK → Prop}
theorem pe_bm (pa : PlainAttrs T) (slot : Slot T name id) (hty : typeOf (.builtin id) = pure (.type "method_descriptor")) (hm : MtR X id r) (ho : PE X o to) (ha : PA X (e :: es) t)
  (hbase : attributeBase o name X.env (eval o X.env) = eval o X.env := by rfl)
  (hfew : ((backTo cpos (starEach (e :: es) X.env)).all (fun x => !x.1) && (backToKw cpos (keywordEach [] X.env)).all (fun x => x.1.isSome)
   && decide ((e :: es).length + ([] : List Keyword).length + (if ([] : List Keyword).isEmpty then 0 else 1) < 30)) = true := by rfl)
  (hline : (apos.endLine == cpos.line) = true := by rfl) (hs : starEach (e :: es) X.env = (false, eval e X.env) :: starEach es X.env := by rfl) (hplain : (backTo cpos (starEach es X.env)).any (·.1) = false := by rfl) :
  PE X (.Call (.Attribute o name apos) (e :: es) [] cpos) (tBM X.K T r to t) := by
 intro pins s σ H Q I h
 refine wpAny_Call_method_late hbase hfew hline rfl (thn (ho pins s σ H _ I h) fun v s1 hX11_ => ?_)
 obtain ⟨x, H1, I1, r1, ty, q1⟩ := hX11_
 obtain ⟨h1, h2⟩ := tyV_is I1 r1 ty
 refine ⟨T, id, pa, slot, hty, h1, h2, ?_⟩
 have hA := ha cpos pins s1 σ H1 _ I1 q1
 rw [hs] at hA ⊢
 refine Calls.callWith_builtin (by show (false || (backTo cpos (starEach es X.env)).any (·.1)) = false; rw [hplain] <;> rfl) (Calls.evalArgs_plain ?_)
 exact thn hA fun us s2 ⟨vs, H2, I2, r2, q2⟩ => hm pins s2 σ H2 x vs v us Q I2 r1 r2 q2
/- xs.append(e), list.index on a module's tuple .. are MtR facts of 06m -/
end
end L2
namespace L2
open PySem PySem.Spec PyProof.Rows
noncomputable def MtM (X : Cx) (id : String) (r : V → List V → Hp → VK → Prop) : Prop :=
 ∀ (pins : List (Addr × Obj)) (s : Shared) (σ : St) (H : Hp) (x : V) (xs : List V) (v : Value) (us : List Value) (Q : VK), Inv X pins σ H s → RelV x v → Vals xs us → r x xs H Q →
  wpAny (model X.prog X.w) X.A (call (.builtin id) (v :: us)) (EP X pins σ Q) X.xe s
theorem Vals.one : ∀ {x : V} {us : List Value}, Vals [x] us → ∃ u, us = [u] ∧ RelV x u
 | _, _, .cons r .nil => ⟨_, rfl, r⟩
theorem Vals.reverse {xs : List V} {us : List Value} (h : Vals xs us) : Vals xs.reverse us.reverse := by
 induction h with
 | nil => exact .nil
 | cons r t ih => rw [List.reverse_cons, List.reverse_cons]; exact Vals.append ih (.cons r .nil)
theorem Vals.rep {xs : List V} {us : List Value} (h : Vals xs us) : ∀ k : Nat, Vals (List.replicate k xs).flatten (List.replicate k us).flatten
 | 0 => .nil
 | k + 1 => by
  rw [List.replicate_succ, List.replicate_succ, List.flatten_cons, List.flatten_cons]
  exact Vals.append h (Vals.rep h k)
theorem foldl_rep (its : List Value) : ∀ (k : Nat) (acc : List Value),
  List.foldl (fun x1 x2 => x1 ++ x2) acc.toArray (List.replicate k its.toArray) = (acc ++ (List.replicate k its).flatten).toArray
 | 0, acc => by simp
 | k + 1, acc => by
  have e : acc.toArray ++ its.toArray = (acc ++ its).toArray := by simp
  have e2 : (acc ++ its) ++ (List.replicate k its).flatten = acc ++ (List.replicate (k + 1) its).flatten := by
   rw [List.replicate_succ, List.flatten_cons, List.append_assoc]
  rw [← e2, ← foldl_rep its k (acc ++ its), ← e, List.replicate_succ, List.foldl_cons]
section
variable {X : Cx} {pins : List (Addr × Obj)} {σ : St} {H : Hp} {s : Shared} {l b : Addr} {xs ys zs : List V}
theorem Inv.lset {its its' : List Value} {n : Nat} {f : Array Value → Array Value} {t' : Nat} (I : Inv X pins σ H s) (hH : H l = some (.lst xs))
  (e : s.heap.get? l = some { cls := .type "list", data := .seq its.toArray n }) (hf : f its.toArray = its'.toArray) (hv : Vals ys its') (hz : ys.length ≤ sizeLine) :
  Inv X pins σ (upd H l (.lst ys)) { s with heap := s.heap.update l (Obj.mapSeq f), toks := t' } := by
 have q := PySem.IsL.update e f
 rw [hf] at q
 refine I.write (x := l) (e := l) (by rw [hH]; exact trivial) (.inl rfl) (fun b' u hb hu => (Heap.get?_update_other s.heap (Obj.mapSeq f) (Ne.symm hb)).trans hu) ⟨_, q⟩ ?_
 exact ⟨hz, its', _, hv, q⟩
theorem Inv.lnew {its : List Value} {t' : Nat} (I : Inv X pins σ H s) (hv : Vals ys its) (hz : ys.length ≤ sizeLine) :
  Inv X pins σ (upd H s.heap.objs.size (.lst ys)) { s with heap := s.heap.push { cls := .type "list", data := .seq its.toArray }, toks := t' } :=
 I.laid (fun _ _ q => Heap.get?_push_of_some _ q) (Nat.le_refl _) ⟨hz, its, 0, hv, Heap.get?_push_size _ rfl⟩
theorem Inv.fresh (I : Inv X pins σ H s) : H s.heap.objs.size = none := I.hok.fresh (Nat.le_refl _)
theorem Inv.lstM (I : Inv X pins σ H s) (hH : H l = some (.lst xs)) : xs.length ≤ sizeLine ∧ ∃ (its : List Value) (n : Nat), Vals xs its ∧ xs.length = its.length ∧ s.heap.get? l = some { cls := .type "list", data := .seq its.toArray n } := by
 obtain ⟨z, its, n, r, e⟩ := I.hok l _ hH
 exact ⟨z, its, n, r, r.length, e⟩
theorem notLongL {n : Nat} (h : n ≤ sizeLine) : Builtin.List.listTooLong n = false := by
 unfold Builtin.List.listTooLong
 exact decide_eq_false (by lia)
end
section
variable {X : Cx}
noncomputable def rAppend : V → List V → Hp → VK → Prop := fun x vs H Q => ∃ l xs y, x = .ref l ∧ vs = [y] ∧ H l = some (.lst xs) ∧ xs.length < sizeLine ∧ Q .non (upd H l (.lst (xs ++ [y])))
theorem mt_append : MtM X "list.append" rAppend := by
 intro pins s σ H x vs v us Q I rx rv h
 obtain ⟨l, xs, y, rfl, rfl, hH, hz, q⟩ := h
 cases rx
 obtain ⟨u, rfl, ru⟩ := rv.one
 obtain ⟨z, its, n, r, hl, e⟩ := I.lstM hH
 refine call_meets F.slot_list_append ⟨_, e, rfl⟩ F.entry_list_append (F.args_list_append_2 _ _) (PySem.list_append l its.toArray n u (by rw [List.size_toArray]; lia)) ⟨e, ?_⟩
 refine ⟨.non, _, I.lset (its' := its ++ [u]) hH e (by simp) (r.append (.cons ru .nil)) ?_, rfl, q⟩
 rw [List.length_append, List.length_singleton]
 lia
noncomputable def rRep : R2 := fun x y H Q => ∃ l k xs, x = .ref l ∧ y = .int k ∧ H l = some (.lst xs) ∧ -(2 ^ 63) ≤ k ∧ k < 2 ^ 63 ∧ xs.length * k.toNat ≤ sizeLine ∧
 ∀ p, H p = none → Q (.ref p) (upd H p (.lst (List.replicate k.toNat xs).flatten))
theorem len_rep {α : Type} (xs : List α) (k : Nat) : (List.replicate k xs).flatten.length = k * xs.length := by
 induction k with
 | zero => simp
 | succ k ih => rw [List.replicate_succ, List.flatten_cons, List.length_append, ih, Nat.succ_mul, Nat.add_comm]
theorem op_rep : OpR X (binaryOp .Mult) rRep := by
 intro pins s σ H x y v u Q I rx ry h
 obtain ⟨l, k, xs, rfl, rfl, hH, h1, h2, hz, q⟩ := h
 cases rx
 obtain ⟨t, rfl⟩ := ry
 obtain ⟨z, its, n, r, hl, e⟩ := I.lstM hH
 have hlen : its.toArray.size * k.toNat ≤ sizeLine := by rw [List.size_toArray, ← hl]; exact hz
 have hcap : ¬ its.toArray.size * k.toNat > (2 ^ 63 - 1) / 8 := by
  have : (sizeLine : Nat) ≤ (2 ^ 63 - 1) / 8 := by decide
  lia
 have hfit : ¬ (!Builtin.List.listFitsIndex k) = true := by
  rw [fitsIndex_both h1 h2]
  exact Bool.false_ne_true
 have hlong : ¬ Builtin.List.listTooLong (its.toArray.size * k.toNat) = true := by
  rw [notLongL hlen]
  exact Bool.false_ne_true
 have hnew : List.foldl (fun x1 x2 => x1 ++ x2) #[] (List.replicate (if its.toArray.isEmpty = true then 0 else k.toNat) its.toArray) = (List.replicate k.toNat its).flatten.toArray := by
  have f0 : ∀ m : Nat, List.foldl (fun x1 x2 => x1 ++ x2) #[] (List.replicate m its.toArray) = (List.replicate m its).flatten.toArray := fun m => by
   have := foldl_rep its m []
   rw [List.nil_append] at this
   exact this
  rw [f0]
  cases its with
  | nil => simp
  | cons a r' => rw [if_neg (by simp)]
 refine wpAny_binaryOp_repeat_ref (T := "list") (U := "int") (by decide) ⟨_, e, rfl⟩ (fun s' => typeIs_int s' k t) noFill_list_mul F.fills_int_mul F.slot_int_rmul repeat_list F.slot_int_index.lookup
  (call_meets F.slot_int_rmul (typeIs_int s k t) F.entry_int_rmul (F.args_int_rmul_2 _ _) (int___rmul___int_list k t l its.toArray n)
   ⟨e, rfl, ⟨_, e, rfl⟩, call_meets F.slot_list_mul ⟨_, e, rfl⟩ F.entry_list_mul (F.args_list_mul_2 _ _) (AutoListH.list___mul___list_int_3 l its.toArray n k t hfit hcap hlong) ⟨e, ?_⟩⟩)
 rw [hnew]
 exact ⟨.ref _, _, I.lnew (t' := s.toks) (r.rep k.toNat) (by rw [len_rep, Nat.mul_comm]; exact hz), rfl, q _ I.fresh⟩
end
section
variable {prog : Program} {w : World} {A : Around} {E : Value → Shared → Prop} {s : Shared}
end
section
variable {X : Cx}
end
end L2
namespace L2
open PySem PySem.Spec PyProof.Rows
section
variable {κ : Type} [DecidableEq κ]
noncomputable def valV (kvs : List (κ × V)) (k : κ) : Option V := (kvs.find? fun kv => decide (kv.1 = k)).map (·.2)
noncomputable def putK (kvs : List (κ × V)) (k : κ) (v : V) : List (κ × V) :=
 if (kvs.any fun kv => decide (kv.1 = k)) = true then kvs.map (fun kv => if kv.1 = k then (kv.1, v) else kv) else kvs ++ [(k, v)]
noncomputable def dropK (kvs : List (κ × V)) (k : κ) : List (κ × V) := kvs.filter fun kv => decide (kv.1 ≠ k)
theorem valV_pos {p : κ × V} {r : List (κ × V)} {k : κ} (e : p.1 = k) : valV (p :: r) k = some p.2 := by simp [valV, List.find?_cons, e]
theorem valV_neg {p : κ × V} {r : List (κ × V)} {k : κ} (e : ¬ p.1 = k) : valV (p :: r) k = valV r k := by simp [valV, List.find?_cons, e]
theorem valV_any (k : κ) : ∀ kvs : List (κ × V), (kvs.any fun kv => decide (kv.1 = k)) = (valV kvs k).isSome
 | [] => rfl
 | p :: r => by
  rw [List.any_cons]
  by_cases e : p.1 = k
  ·simp only [valV_pos e, decide_eq_true e, Bool.true_or, Option.isSome_some]
  ·rw [valV_neg e, decide_eq_false e, Bool.false_or]; exact valV_any k r
theorem length_putK (kvs : List (κ × V)) (k : κ) (v : V) : (putK kvs k v).length ≤ kvs.length + 1 := by
 unfold putK
 split
 ·rw [List.length_map]; lia
 ·rw [List.length_append, List.length_cons, List.length_nil]; lia
theorem RelO.isSome_eq {o : Option V} {u : Option Value} (r : RelO o u) : o.isSome = u.isSome := by
 cases o with
 | none => cases u with
  | none => rfl
  | some _ => exact (show False from r).elim
 | some _ => cases u with
  | none => exact (show False from r).elim
  | some _ => rfl
theorem RelO.getD {o : Option V} {u : Option Value} {d : V} {d' : Value} (r : RelO o u) (rd : RelV d d') : RelV (o.getD d) (u.getD d') := by
 cases o with
 | none => cases u with
  | none => exact rd
  | some _ => exact (show False from r).elim
 | some _ => cases u with
  | none => exact (show False from r).elim
  | some _ => exact r
theorem KV.val {kvs : List (κ × V)} {vs : List (κ × Value)} (r : KV kvs vs) (k : κ) : RelO (valV kvs k) (valueAt vs k) := by
 unfold KV at r
 induction r with
 | nil => exact True.intro
 | @cons p q ps qs h t ih =>
  obtain ⟨h1, h2⟩ := h
  by_cases e : p.1 = k
  ·have e' : q.1 = k := h1.symm.trans e
   have b : valueAt (q :: qs) k = some q.2 := by simp [valueAt, List.find?_cons, e']
   rw [valV_pos e, b]; exact h2
  ·have e' : ¬ q.1 = k := fun z => e (h1.trans z)
   have b : valueAt (q :: qs) k = valueAt qs k := by simp [valueAt, List.find?_cons, e']
   rw [valV_neg e, b]; exact ih
theorem KV.any {kvs : List (κ × V)} {vs : List (κ × Value)} (r : KV kvs vs) (k : κ) : (kvs.any fun kv => decide (kv.1 = k)) = vs.any fun kv => decide (kv.1 = k) := by
 unfold KV at r
 induction r with
 | nil => rfl
 | cons h t ih => rw [List.any_cons, List.any_cons, ih, h.1]
theorem KV.repl {kvs : List (κ × V)} {vs : List (κ × Value)} (r : KV kvs vs) (k : κ) {y : V} {u : Value} (ry : RelV y u) :
  KV (kvs.map fun kv => if kv.1 = k then (kv.1, y) else kv) (vs.map fun kv => if kv.1 = k then (kv.1, u) else kv) := by
 unfold KV at r ⊢
 induction r with
 | nil => exact .nil
 | @cons p q ps qs h t ih =>
  rw [List.map_cons, List.map_cons]
  refine .cons ?_ ih
  obtain ⟨h1, h2⟩ := h
  by_cases e : p.1 = k
  ·rw [if_pos e, if_pos (h1.symm.trans e)]; exact ⟨h1, ry⟩
  ·rw [if_neg e, if_neg (fun z => e (h1.trans z))]; exact ⟨h1, h2⟩
theorem KV.put {kvs : List (κ × V)} {vs : List (κ × Value)} (r : KV kvs vs) (k : κ) {y : V} {u : Value} (ry : RelV y u) : KV (putK kvs k y) (stored vs k u) := by
 unfold putK stored
 rw [r.any k]
 by_cases e : (vs.any fun kv => decide (kv.1 = k)) = true
 ·rw [if_pos e, if_pos e]; exact r.repl k ry
 ·rw [if_neg e, if_neg e]; exact Paired.snoc r ⟨rfl, ry⟩
theorem KV.drop {kvs : List (κ × V)} {vs : List (κ × Value)} (r : KV kvs vs) (k : κ) : KV (dropK kvs k) (without vs k) := by
 unfold KV at r ⊢
 unfold dropK without
 induction r with
 | nil => exact .nil
 | @cons p q ps qs h t ih =>
  obtain ⟨h1, h2⟩ := h
  rw [List.filter_cons, List.filter_cons]
  by_cases e : p.1 = k
  ·have a : ¬ decide (p.1 ≠ k) = true := by simp [e]
   have b : ¬ decide (q.1 ≠ k) = true := by simp [h1.symm.trans e]
   rw [if_neg a, if_neg b]; exact ih
  ·have e' : ¬ q.1 = k := fun z => e (h1.trans z)
   have a : decide (p.1 ≠ k) = true := by simp [e]
   have b : decide (q.1 ≠ k) = true := by simp [e']
   rw [if_pos a, if_pos b]; exact .cons ⟨h1, h2⟩ ih
theorem KV.length {kvs : List (κ × V)} {vs : List (κ × Value)} (r : KV kvs vs) : kvs.length = vs.length := Paired.length r
end
theorem kV_is {P : Program} {w : World} {k : Key} {u : Value} (r : RelV (kV k) u) : (mixKind P w).is k u = true := by
 cases k with
 | inl i => obtain ⟨t, e⟩ := (show ∃ t, u = Value.int i t from r); subst e; exact mixKind_int P w i t
 | inr x => obtain ⟨t, e⟩ := (show ∃ t, u = Value.str x t from r); subst e; exact mixKind_str P w x t
theorem items_are {P : Program} {w : World} : ∀ {ks : List Key} {us : List Value}, Vals (ks.map kV) us → ItemsAre (mixKind P w) ks us
 | [], _, r => by rw [List.map_nil] at r; cases r; exact .nil
 | k :: ks, _, r => by
  rw [List.map_cons] at r
  cases r with
  | cons h t => exact .cons (kV_is h) (items_are t)
noncomputable abbrev KT (H : Hp) : List (List Key × V) → List (List Key × Addr × Value) → Prop := Paired fun p q => p.1 = q.1 ∧ H q.2.1 = some (.tup (p.1.map kV)) ∧ RelV p.2 q.2.2
theorem KT.val {H : Hp} {kvs : List (List Key × V)} {xs : List (List Key × Addr × Value)} (r : KT H kvs xs) (k : List Key) : RelO (valV kvs k) ((atKey xs k).map (·.2)) := by
 induction r with
 | nil => exact True.intro
 | @cons p q ps qs h t ih =>
  obtain ⟨h1, _, h2⟩ := h
  by_cases e : p.1 = k
  ·have e' : q.1 = k := h1.symm.trans e
   have b : atKey (q :: qs) k = some q.2 := by simp [atKey, List.find?_cons, e']
   rw [valV_pos e, b]; exact h2
  ·have e' : ¬ q.1 = k := fun z => e (h1.trans z)
   have b : atKey (q :: qs) k = atKey qs k := by simp [atKey, List.find?_cons, e']
   rw [valV_neg e, b]; exact ih
theorem KT.repl {H : Hp} {kvs : List (List Key × V)} {xs : List (List Key × Addr × Value)} (r : KT H kvs xs) (k : List Key) {y : V} {u : Value} (ry : RelV y u) :
  KT H (kvs.map fun kv => if kv.1 = k then (kv.1, y) else kv) (xs.map (putAt k u)) := by
 induction r with
 | nil => exact .nil
 | @cons p q ps qs h t ih =>
  rw [List.map_cons, List.map_cons]
  refine .cons ?_ ih
  obtain ⟨h1, h2, h3⟩ := h
  unfold putAt
  by_cases e : p.1 = k
  ·rw [if_pos e, if_pos (h1.symm.trans e)]; exact ⟨h1, h2, ry⟩
  ·rw [if_neg e, if_neg (fun z => e (h1.trans z))]; exact ⟨h1, h2, h3⟩
theorem KT.put {H : Hp} {kvs : List (List Key × V)} {xs : List (List Key × Addr × Value)} (r : KT H kvs xs) (k : List Key) {b : Addr} {y : V} {u : Value} (hb : H b = some (.tup (k.map kV))) (ry : RelV y u) :
  KT H (putK kvs k y) (storedH xs k b u) := by
 have e : (kvs.any fun kv => decide (kv.1 = k)) = (atKey xs k).isSome := by
  rw [valV_any, (r.val k).isSome_eq, Option.isSome_map]
 unfold putK storedH
 rw [e]
 by_cases q : (atKey xs k).isSome = true
 ·rw [if_pos q, if_pos q]; exact r.repl k ry
 ·rw [if_neg q, if_neg q]; exact Paired.snoc r ⟨rfl, hb, ry⟩
theorem KT.keeps {H H' : Hp} {kvs : List (List Key × V)} {xs : List (List Key × Addr × Value)} (r : KT H kvs xs) (ht : ∀ b ys, H b = some (.tup ys) → H' b = some (.tup ys)) : KT H' kvs xs :=
 Paired.mapP r fun _ _ z => ⟨z.1, ht _ _ z.2.1, z.2.2⟩
section
variable {P : Program} {w : World} {H : Hp} {h : Heap} {a : Addr}
theorem rd_of {u : HO} (ok : HOk P w H h) (e : Rd H a u) : ObjOk P w H h a u := e.ok ok
theorem dk_rd {kvs : List (Key × V)} (ok : HOk P w H h) (e : Rd H a (.dK kvs)) : kvs.length ≤ sizeLine ∧ (a == sysModules) = false ∧ ∃ vs, KV kvs vs ∧ h.DictOf (mixKind P w) a vs :=
 show ObjOk P w H h a (.dK kvs) from rd_of ok e
theorem dk_of {kvs : List (Key × V)} (ok : HOk P w H h) (e : H a = some (.dK kvs)) : kvs.length ≤ sizeLine ∧ (a == sysModules) = false ∧ ∃ vs, KV kvs vs ∧ h.DictOf (mixKind P w) a vs := dk_rd ok (.inl e)
theorem key_of {ks : List Key} (ok : HOk P w H h) (e : H a = some (.tup (ks.map kV))) : (tupleKind (mixKind P w)).is h ks a := by
 obtain ⟨_, its, r, o, h1, h2, n, h3⟩ := (show ObjOk P w H h a (.tup (ks.map kV)) from ok a _ e)
 exact ⟨o, its.toArray, n, h1, h2, h3, by simpa using items_are r⟩
theorem dt_rd {kvs : List (List Key × V)} (ok : HOk P w H h) (e : Rd H a (.dT kvs)) : kvs.length ≤ sizeLine ∧ (a == sysModules) = false ∧
  ∃ xs, KT H kvs xs ∧ h.DictOfH (tupleKind (mixKind P w)) a xs := by
 obtain ⟨z, y, xs, r, o, es, ep, h1, h2, h3, h4, h5⟩ := (show ObjOk P w H h a (.dT kvs) from rd_of ok e)
 refine ⟨z, y, xs, r, o, es, ep, h1, h2, h3, h4, fun x hx => ?_, h5⟩
 have all : ∀ {l : List (List Key × V)} {m : List (List Key × Addr × Value)}, KT H l m → ∀ x ∈ m, (tupleKind (mixKind P w)).is h x.1 x.2.1 := by
  intro l m q
  induction q with
  | nil => intro x hx; exact nomatch hx
  | @cons p q ps qs hq t ih =>
   intro x hx
   rcases List.mem_cons.mp hx with e | hx
   ·subst e
    exact key_of ok (by rw [← hq.1]; exact hq.2.1)
   ·exact ih x hx
 exact all r x hx
theorem dt_of {kvs : List (List Key × V)} (ok : HOk P w H h) (e : H a = some (.dT kvs)) : kvs.length ≤ sizeLine ∧ (a == sysModules) = false ∧
  ∃ xs, KT H kvs xs ∧ h.DictOfH (tupleKind (mixKind P w)) a xs := dt_rd ok (.inl e)
end
noncomputable def DGet (H : Hp) (a : Addr) (y : V) (r : Option V) : Prop :=
 (∃ kvs k, Rd H a (.dK kvs) ∧ y = kV k ∧ r = valV kvs k) ∨ ∃ kvs k b, Rd H a (.dT kvs) ∧ y = .ref b ∧ H b = some (.tup (k.map kV)) ∧ r = valV kvs k
noncomputable def DPut (H : Hp) (a : Addr) (y v : V) (H' : Hp) : Prop :=
 (∃ kvs k, H a = some (.dK kvs) ∧ y = kV k ∧ kvs.length < sizeLine ∧ H' = upd H a (.dK (putK kvs k v))) ∨
 ∃ kvs k b, H a = some (.dT kvs) ∧ y = .ref b ∧ H b = some (.tup (k.map kV)) ∧ kvs.length < sizeLine ∧ H' = upd H a (.dT (putK kvs k v))
theorem DGet.k {H : Hp} {a : Addr} {kvs : List (Key × V)} {k : Key} (e : H a = some (.dK kvs)) : DGet H a (kV k) (valV kvs k) := .inl ⟨kvs, k, .inl e, rfl, rfl⟩
theorem DGet.t {H : Hp} {a b : Addr} {kvs : List (List Key × V)} {k : List Key} (e : H a = some (.dT kvs)) (eb : H b = some (.tup (k.map kV))) : DGet H a (.ref b) (valV kvs k) := .inr ⟨kvs, k, b, .inl e, rfl, eb, rfl⟩
theorem DPut.k {H : Hp} {a : Addr} {kvs : List (Key × V)} {k : Key} {v : V} (e : H a = some (.dK kvs)) (hl : kvs.length < sizeLine) : DPut H a (kV k) v (upd H a (.dK (putK kvs k v))) := .inl ⟨kvs, k, e, rfl, hl, rfl⟩
theorem DPut.t {H : Hp} {a b : Addr} {kvs : List (List Key × V)} {k : List Key} {v : V} (e : H a = some (.dT kvs)) (eb : H b = some (.tup (k.map kV))) (hl : kvs.length < sizeLine) :
  DPut H a (.ref b) v (upd H a (.dT (putK kvs k v))) := .inr ⟨kvs, k, b, e, rfl, eb, hl, rfl⟩
section
variable {X : Cx} {pins : List (Addr × Obj)} {σ : St} {H : Hp} {s : Shared} {a : Addr} {y v : V} {u r : Value} {o : Option V} {A : Around} {E : Value → Shared → Prop}
theorem Inv.big (I : Inv X pins σ H s) : sysModules < s.heap.objs.size := by
 have h : mainGlobals < s.heap.objs.size := (I.mod.glob.keeps I.bk).lt
 exact Nat.lt_trans (by decide) h
theorem d_write {h' : Heap} {t' : Nat} {ob : HO} (I : Inv X pins σ H s) (mu : Mut (H a)) (hs : Heap.SameBut a s.heap h') (he : ∃ q, h'.get? a = some q) (new : ObjOk X.prog X.w (upd H a ob) h' a ob) :
  Inv X pins σ (upd H a ob) { s with heap := h', toks := t' } :=
 I.write (x := a) (e := a) mu (.inl rfl) (fun b q hb z => (hs.2 b hb).trans z) he new
theorem dk_new {P : Program} {w : World} {H' : Hp} {h' : Heap} {kvs : List (Key × V)} {vs : List (Key × Value)} (z : kvs.length ≤ sizeLine) (hd : (a == sysModules) = false) (rel : KV kvs vs) (dd : h'.DictOf (mixKind P w) a vs) :
  ObjOk P w H' h' a (.dK kvs) := ⟨z, hd, vs, rel, dd⟩
theorem d_setItem {H' : Hp} {Q : Unit → Shared → Prop} (hu : A.units + 1 < cLine) (I : Inv X pins σ H s) (g : DPut H a y v H') (ry : RelV y u) (rv : RelV v r) (h : ∀ s', Inv X pins σ H' s' → Q () s') :
  wpAny (model X.prog X.w) A (setItem (.ref a) u r) Q E s := by
 rcases g with ⟨kvs, k, e, ey, l, eH⟩ | ⟨kvs, k, b, e, ey, eb, l, eH⟩
 ·subst ey eH
  obtain ⟨z, hd, vs, rel, dd⟩ := dk_of I.hok e
  have hz : vs.length ≤ sizeLine := by rw [← rel.length]; exact z
  have hl : (putK kvs k v).length ≤ sizeLine := by have := length_putK kvs k v; lia
  refine wpAny_setItem_pairs (hsz := hz) (kV_is ry) dd fun h' dd' hs => h _ ?_
  have he : ∃ q, h'.get? a = some q := let ⟨q, _, _, hq, _⟩ := dd'; ⟨q, hq⟩
  exact d_write I (by rw [e]; exact True.intro) hs he (dk_new hl hd (rel.put k rv) dd')
 ·subst ey eH
  cases (show u = Value.ref b from ry)
  obtain ⟨z, hd, xs, rel, dd⟩ := dt_of I.hok e
  have hz : xs.length ≤ sizeLine := by rw [← Paired.length rel]; exact z
  have hl : (putK kvs k v).length ≤ sizeLine := by have := length_putK kvs k v; lia
  refine wpAny_setItem_heap (hsz := hz) (tupleKind_room_in1 hu) (key_of I.hok eb) dd fun h' dd' hs => h _ ?_
  obtain ⟨q, es, ep, hq, h2, h3, h4, _, h5⟩ := dd'
  refine d_write I (by rw [e]; exact True.intro) hs ⟨q, hq⟩ ⟨hl, hd, _, (rel.put k eb rv).keeps fun c ys ec => ?_, q, es, ep, hq, h2, h3, h4, h5⟩
  rw [upd_ne (ne_of ec e (fun z => nomatch z))]
  exact ec
end
section
variable {X : Cx} {pins : List (Addr × Obj)} {σ : St} {H : Hp} {s : Shared} {a : Addr} {kvs : List (Key × V)} {k : Key} {u : Value} {A : Around} {E : Value → Shared → Prop}
theorem d_len {Q : Value → Shared → Prop} (I : Inv X pins σ H s) (e : Rd H a (.dK kvs)) (h : ∀ t s', Inv X pins σ H s' → Q (.int kvs.length t) s') : wpAny (model X.prog X.w) A (call (.builtin "len") [.ref a]) Q E s := by
 obtain ⟨z, hd, vs, rel, dd⟩ := dk_rd I.hok e
 refine call_len_dict hd dd (by rw [← rel.length]; rw [sizeLine_eq] at z; lia) ?_
 rw [← rel.length]
 exact h _ _ (I.tok _)
end
noncomputable def sDPut (td ty tv : TE) : TS := fun D σ H => tv σ H fun v H1 => td σ H1 fun x H2 => ty σ H2 fun y H3 => ∃ a H4, x = .ref a ∧ DPut H3 a y v H4 ∧ D.nx σ H4
section
variable {X : Cx} {o i e value : Expr} {pos pos' tpos : Pos} {td ty tv : TE}
theorem ps_dput (hu : X.A.units + 1 < cLine) (ho : PE X o td) (hi : PE X i ty) (hv : PE X value tv) (hs : swapsWith value (some (.Subscript o i pos')) pos.line X.env = pure false) :
  PS X (.Assign [.Subscript o i pos'] value pos) (sDPut td ty tv) := by
 intro pins s σ H D I h
 refine wpAny_Assign_Subscript (thn (hv pins s σ H _ I h) fun r s1 ⟨v, H1, I1, rv, q1⟩ => thn (ho pins s1 σ H1 _ I1 q1) fun u s2 ⟨x, H2, I2, rx, q2⟩ => thn (hi pins s2 σ H2 _ I2 q2) fun iv s3 hX11_ => ?_) hs
 obtain ⟨y, H3, I3, ry, a, H4, ex, g, q3⟩ := hX11_
 subst ex
 obtain rfl : u = Value.ref a := rx
 exact d_setItem hu I3 g ry rv fun s4 I4 => ⟨σ, H4, I4, q3⟩
end
theorem dk_empty {P : Program} {w : World} {H : Hp} (h : Heap) (hb : sysModules < h.objs.size) : ObjOk P w H (h.push { cls := .type "dict", data := .dict #[] }) h.objs.size (.dK []) :=
 ⟨Nat.zero_le _, beq_eq_false_iff_ne.mpr (Ne.symm (Nat.ne_of_lt hb)), [], .nil, Heap.DictOf.new h⟩
section
variable {X : Cx} {pos : Pos}
end
noncomputable def tPairs : List (TE × TE) → St → Hp → (List (V × V) → Hp → Prop) → Prop
 | [], _, H, Q => Q [] H
 | (tk, tv) :: r, σ, H, Q => tk σ H fun x H1 => tv σ H1 fun y H2 => tPairs r σ H2 fun ps H3 => Q ((x, y) :: ps) H3
noncomputable abbrev VV : List (V × V) → List (Value × Value) → Prop := Paired fun p q => RelV p.1 q.1 ∧ RelV p.2 q.2
noncomputable def PPs (X : Cx) (pos : Pos) (keys : List (Option Expr)) (values : List Expr) (trs : List (TE × TE)) : Prop :=
 ∀ (pins : List (Addr × Obj)) (s : Shared) (σ : St) (H : Hp) (Q : List (V × V) → Hp → Prop), Inv X pins σ H s → tPairs trs σ H Q →
  wpAny (model X.prog X.w) X.A (evalPairs (pairTrees keys values X.env pos)) (fun vs s' => ∃ ps H', Inv X pins σ H' s' ∧ VV ps vs ∧ Q ps H') X.xe s
theorem pps_nil {X : Cx} {pos : Pos} : PPs X pos [] [] [] := fun pins s σ H Q I h => pairTrees_nil_walk ⟨[], H, I, .nil, h⟩
theorem pps_cons {X : Cx} {pos : Pos} {k v : Expr} {ks : List (Option Expr)} {vs : List Expr} {tk tv : TE} {trs : List (TE × TE)} (hk : PE X k tk) (hv : PE X v tv) (hr : PPs X pos ks vs trs) :
  PPs X pos (some k :: ks) (v :: vs) ((tk, tv) :: trs) := fun pins s σ H Q I h =>
 pairTrees_cons_walk (thn (hk pins s σ H _ I h) fun u s1 ⟨x, H1, I1, rx, q1⟩ => thn (hv pins s1 σ H1 _ I1 q1) fun w2 s2 ⟨y, H2, I2, ry, q2⟩ =>
  thn (hr pins s2 σ H2 _ I2 q2) fun ws s3 ⟨ps, H3, I3, rel, q3⟩ => ⟨(x, y) :: ps, H3, I3, .cons ⟨rx, ry⟩ rel, q3⟩)
noncomputable def mergeK (kvs more : List (Key × V)) : List (Key × V) := more.foldl (fun acc kv => putK acc kv.1 kv.2) kvs
theorem KV.merge : ∀ {more : List (Key × V)} {rs : List (Key × Value)} {kvs : List (Key × V)} {vs : List (Key × Value)}, KV more rs → KV kvs vs → KV (mergeK kvs more) (merged vs rs) := by
 intro more rs kvs vs r
 unfold KV at r
 induction r generalizing kvs vs with
 | nil => intro q; exact q
 | @cons p q ps qs h t ih =>
  intro r0
  have e : KV (putK kvs p.1 p.2) (stored vs q.1 q.2) := by
   have := r0.put p.1 h.2
   rw [← h.1]; exact this
  exact ih e
theorem length_mergeK : ∀ (more kvs : List (Key × V)), (mergeK kvs more).length ≤ kvs.length + more.length
 | [], kvs => by show kvs.length ≤ kvs.length + 0; lia
 | p :: r, kvs => by
  have h1 := length_mergeK r (putK kvs p.1 p.2)
  have h2 := length_putK kvs p.1 p.2
  show (mergeK (putK kvs p.1 p.2) r).length ≤ _
  rw [List.length_cons]; lia
theorem carries_of {P : Program} {w : World} : ∀ {kvs : List (Key × V)} {ws : List (Value × Value)}, VV (kvs.map fun kv => (kV kv.1, kv.2)) ws → ∃ rs, Carries (mixKind P w) ws rs ∧ KV kvs rs
 | [], _, r => by rw [List.map_nil] at r; cases r; exact ⟨[], True.intro, .nil⟩
 | p :: kvs, _, r => by
  rw [List.map_cons] at r
  cases r with
  | @cons a b as bs h t =>
   obtain ⟨rs, c, q⟩ := carries_of (P := P) (w := w) t
   obtain ⟨b1, b2⟩ := b
   exact ⟨(p.1, b2) :: rs, ⟨kV_is h.1, rfl, c⟩, .cons ⟨rfl, h.2⟩ q⟩
noncomputable def tDisp (trs : List (TE × TE)) : TE := fun σ H Q => ∀ p, H p = none → tPairs trs σ (upd H p (.dK [])) fun ps H2 => H2 p = some (.dK []) ∧ ∃ kvs : List (Key × V), ps = kvs.map (fun kv => (kV kv.1, kv.2)) ∧ kvs.length ≤ 15 ∧ Q (.ref p) (upd H2 p (.dK (mergeK [] kvs)))
theorem pe_disp {X : Cx} {pos : Pos} {keys : List (Option Expr)} {values : List Expr} {trs : List (TE × TE)} (h : PPs X pos keys values trs) (hall : keys.all (·.isSome) = true) (hl : keys.length = values.length) (h0 : keys ≠ [])
  (h15 : keys.length ≤ 15) : PE X (.Dict keys values pos) (tDisp trs) := by
 intro pins s σ H Q I q
 have hn := I.hok.fresh (Nat.le_refl s.heap.objs.size)
 have I1 := I.laid (a := s.heap.objs.size) (o := .dK []) (h' := s.heap.push { cls := .type "dict", data := .dict #[] }) (t' := s.toks) (fun _ _ q => Heap.get?_push_of_some _ q) (Nat.le_refl _) (dk_empty s.heap I.big)
 refine wpAny_Dict_walk (knd := mixKind X.prog X.w) hall hl h0 h15 (thn (h pins _ σ _ _ I1 (q _ hn)) fun ws s2 hX11_ => ?_)
 obtain ⟨ps, H2, I2, rel, e, kvs, ep, lk, q2⟩ := hX11_
 subst ep
 obtain ⟨rs, c, rk⟩ := carries_of (P := X.prog) (w := X.w) rel
 obtain ⟨z, hd, vs0, r0, dd⟩ := dk_of I2.hok e
 cases r0
 refine ⟨rs, c, dd, fun h' dd' hs => ⟨.ref s.heap.objs.size, _, ?_, rfl, q2⟩⟩
 have hz : (mergeK [] kvs).length ≤ sizeLine := by
  have h1 := length_mergeK kvs []
  rw [List.length_nil] at h1
  rw [sizeLine_eq]; lia
 have he : ∃ q, h'.get? s.heap.objs.size = some q := let ⟨q, _, _, hq, _⟩ := dd'; ⟨q, hq⟩
 exact d_write I2 (by rw [e]; exact True.intro) hs he (dk_new hz hd (rk.merge .nil) dd')
structure M1 (X : Cx) (o : Expr) (m : Str) (apos : Pos) (e : Expr) (cpos : Pos) : Prop where
 base : attributeBase o m X.env (eval o X.env) = eval o X.env
 few : ((backTo cpos (starEach [e] X.env)).all (fun x => !x.1) && (backToKw cpos (keywordEach [] X.env)).all (fun x => x.1.isSome)
  && decide (([e] : List Expr).length + ([] : List Keyword).length + (if ([] : List Keyword).isEmpty then 0 else 1) < 30)) = true
 line : (apos.endLine == cpos.line) = true
 trees : backTo cpos (starEach [e] X.env) = [(false, eval e X.env)]
structure M2 (X : Cx) (o : Expr) (m : Str) (apos : Pos) (e f : Expr) (cpos : Pos) : Prop where
 base : attributeBase o m X.env (eval o X.env) = eval o X.env
 few : ((backTo cpos (starEach [e, f] X.env)).all (fun x => !x.1) && (backToKw cpos (keywordEach [] X.env)).all (fun x => x.1.isSome)
  && decide (([e, f] : List Expr).length + ([] : List Keyword).length + (if ([] : List Keyword).isEmpty then 0 else 1) < 30)) = true
 line : (apos.endLine == cpos.line) = true
 trees : backTo cpos (starEach [e, f] X.env) = [(false, eval e X.env), (false, eval f X.env)]
noncomputable def IsD (H : Hp) (a : Addr) : Prop := (∃ kvs, Rd H a (.dK kvs)) ∨ ∃ kvs, Rd H a (.dT kvs)
theorem isD_at {X : Cx} {pins : List (Addr × Obj)} {σ : St} {H : Hp} {s : Shared} {a : Addr} (I : Inv X pins σ H s) (d : IsD H a) :
  s.TypeIs (.ref a) "dict" ∧ (∀ b, Value.ref a = .ref b → ∃ ob, s.heap.get? b = some ob ∧ ob.dict = none) ∧ (a == sysModules) = false := by
 rcases d with ⟨kvs, e⟩ | ⟨kvs, e⟩
 ·obtain ⟨_, hd, vs, _, dd⟩ := dk_rd I.hok e
  refine ⟨dd.typeIs, fun b q => ?_, hd⟩
  cases q
  obtain ⟨ob, _, _, h1, h2, _⟩ := dd
  exact ⟨ob, h1, h2.2.1⟩
 ·obtain ⟨_, hd, xs, _, dd⟩ := dt_rd I.hok e
  refine ⟨dd.typeIs, fun b q => ?_, hd⟩
  cases q
  obtain ⟨ob, _, _, h1, h2, _⟩ := dd
  exact ⟨ob, h1, h2.2.1⟩
section
variable {X : Cx} {pins : List (Addr × Obj)} {σ : St} {H : Hp} {s : Shared} {a : Addr} {y d : V} {u r : Value} {o : Option V} {A : Around} {E : Value → Shared → Prop}
theorem d_get2 {Q : Value → Shared → Prop} (hu : A.units + 1 < cLine) (I : Inv X pins σ H s) (g : DGet H a y o) (ry : RelV y u) (rd : RelV d r) (h : ∀ w' s', Inv X pins σ H s' → RelV (o.getD d) w' → Q w' s') :
  wpAny (model X.prog X.w) A (call (.builtin "dict.get") [.ref a, u, r]) Q E s := by
 rcases g with ⟨kvs, k, e, ey, l⟩ | ⟨kvs, k, b, e, ey, eb, l⟩
 ·subst ey
  obtain ⟨z, hd, vs, rel, dd⟩ := dk_rd I.hok e
  refine call_meetsIn PySem.F.slot_dict_get dd.typeIs PySem.F.entry_dict_get (PySem.F.args_dict_get_3 _ _ _) (meets_dict_get_default (mixKind X.prog X.w) a (kV_is ry) hd r) ⟨_, dd.mapOf, h _ _ (I.tok _) ?_⟩
  rw [l]
  exact (rel.val k).getD rd
 ·subst ey
  cases (show u = Value.ref b from ry)
  obtain ⟨z, hd, xs, rel, dd⟩ := dt_rd I.hok e
  refine call_meetsIn PySem.F.slot_dict_get dd.typeIs PySem.F.entry_dict_get (PySem.F.args_dict_get_3 _ _ _) (meetsH_dict_get_default (tupleKind (mixKind X.prog X.w)) a b hd r) ⟨tupleKind_room_in1 hu, k, xs, key_of I.hok eb, dd, h _ _ (I.tok _) ?_⟩
  rw [l]
  exact (rel.val k).getD rd
end
noncomputable def tDGet2 (td ty tx : TE) : TE := fun σ H Q => td σ H fun x H1 => ∃ a, x = .ref a ∧ IsD H1 a ∧ ty σ H1 fun y H2 => tx σ H2 fun z H3 => ∃ o, DGet H3 a y o ∧ Q (o.getD z) H3
section
variable {X : Cx} {o e f : Expr} {apos cpos : Pos} {td ty tx : TE}
theorem pe_dget2 (hu : X.A.units + 1 < cLine) (ho : PE X o td) (he : PE X e ty) (hf : PE X f tx) (m : M2 X o "get" apos e f cpos) : PE X (.Call (.Attribute o "get" apos) [e, f] [] cpos) (tDGet2 td ty tx) := by
 intro pins s σ H Q I h
 refine wpAny_Call_method m.base m.few m.line PySem.F.plainAttrs_dict PySem.F.slot_dict_get PySem.F.type_dict_get (thn (ho pins s σ H _ I h) fun u s1 hX11_ => ?_)
 obtain ⟨x, H1, I1, rx, a, ex, d, q1⟩ := hX11_
 subst ex
 obtain rfl : u = Value.ref a := rx
 obtain ⟨t1, t2, _⟩ := isD_at I1 d
 refine ⟨t1, t2, ?_⟩
 rw [m.trees]
 refine Calls.callWith_builtin rfl (Calls.evalArgs_plain (Calls.spliced_cons (thn (he pins s1 σ H1 _ I1 q1) fun iv s2 ⟨y, H2, I2, ry, q2⟩ =>
  Calls.spliced_cons (thn (hf pins s2 σ H2 _ I2 q2) fun fv s3 ⟨z, H3, I3, rz, ov, g, q3⟩ => Calls.spliced_nil ?_))))
 exact d_get2 hu I3 g ry rz fun w' s4 I4 rw' => ⟨_, H3, I4, rw', q3⟩
end
section
variable {X : Cx} {pins : List (Addr × Obj)} {σ : St} {H : Hp} {s : Shared} {a : Addr} {kvs : List (Key × V)} {A : Around} {E : Value → Shared → Prop}
end
section
variable {X : Cx} {pins : List (Addr × Obj)} {σ : St} {H : Hp} {s : Shared} {a : Addr} {y : V} {u : Value} {A : Around} {E : Value → Shared → Prop}
end
end L2
namespace Att
open PySem PySem.W PySem.Calls PyProof.Rows
theorem ints_of_wellAll {P : Params} {h : Heap} : ∀ (ns : List Int) (vs : List Value), WellAll P h vs (ns.map WData.int) → IntsAre vs ns := by
 intro ns
 induction ns with
 | nil =>
  intro vs w
  rw [List.map_nil] at w
  cases w
  exact .nil
 | cons n ns ih =>
  intro vs w
  rw [List.map_cons] at w
  cases w with
  | cons a b =>
   cases a
   exact .cons _ _ (ih _ b)
theorem script_of {l : OpenLaw} {n : Nat} (hn : l.most = some n) {P : Params} {h : Heap} {args : List WData} {vals : List Value}
  (hpre : l.row.toRowW.claim.pre args = true) (hwl : WellAll P h vals args) :
  ∃ a vs ns, vals = [Value.ref a] ∧ args = [WData.list (ns.map WData.int)] ∧ h.get? a = some { cls := .type "list", data := .seq vs.toArray } ∧ IntsAre vs ns ∧ ns.length ≤ n := by
 have hsh : WShape.hasAll [] args [.list .int] = true := (pre_splitW hpre).1
 have hc : l.pre.holds [] { args := args } = true := (pre_splitW hpre).2
 obtain ⟨d, r, rfl, h1, h2⟩ := hasAllW_cons hsh
 obtain rfl := hasAllW_nil h2
 obtain ⟨xs, rfl, h3⟩ := hasW_list h1
 obtain ⟨ns, rfl⟩ := items_int h3
 have hlen : ns.length ≤ n := by
  unfold OpenLaw.pre at hc
  have h4 : (WTm.not (.lt (.lit (.int (n : Int))) (.len (.arg 0)))).holds [] { args := [.list (ns.map .int)] } = true := by
   have h4 := (holds_andW hc).1
   rw [hn] at h4
   exact h4
  have h5 := condW_of h4 (w_not (w_lt w_lit (w_len_list (w_arg rfl))))
  rw [List.length_map] at h5
  refine Nat.le_of_not_lt fun q => ?_
  have q' : (n : Int) < ((ns.length : Nat) : Int) := by lia
  first
   | (rw [decide_eq_true q'] at h5; exact absurd h5 (by decide))
   | (simp at h5; lia)
 cases hwl with
 | cons w1 w2 =>
  cases w2
  cases w1 with
  | list ho hall => exact ⟨_, _, ns, rfl, rfl, ho, ints_of_wellAll ns _ hall, hlen⟩
theorem post_true (l : OpenLaw) (args : List WData) : l.row.toRowW.claim.post args (.bool true) args = true :=
 postW_of (r := l.row.toRowW) (X := (true == true))
  (show WShape.has [] (.bool true) .bool = true by first | rfl | decide | simp [WShape.has, WShape.arms, WShape.armsAll])
  (show (WTm.eq .res (.lit (.bool true))).value [] { args := args, res := some (.bool true), after := args } = some (.bool (true == true)) from w_eq_bool (w_res rfl) w_lit) rfl
theorem attach_call {l : OpenLaw} {n : Nat} {q : Program} {loose : List Str} {XP : (Str → Option Value) → Heap → Prop} {YP : World → Heap → Prop} {d : DefRec}
  (hn : l.most = some n) (hdf : d.params.defaults = [])
  (call : ∀ (w : World) (s₀ s₁ : Shared) (mg mb : Str → Option Value) (fa : Addr) (o : Obj) (pm cd doc : Value) (a : Addr) (vs : List Value) (ns : List Int),
   Ground q loose [] XP w s₀ mg mb s₁.heap → YP w s₁.heap →
   s₁.heap.get? fa = some o → o.data = .func (docDef d.name d.params d.body d.scope pm cd doc) → s₁.heap.CodeRec cd d.name → mg d.name = some (.ref fa) →
   s₁.heap.get? a = some { cls := .type "list", data := .seq vs.toArray } → IntsAre vs ns → ns.length ≤ n → s₁.gens = #[] →
   codeAny (model l.prog w) callerA (.call (.ref fa) ⟨[.ref a], []⟩) (fun r s' => r = .ok (.ret (.bool true)) ∧ OldK s₁.heap s'.heap ∧ s'.os = s₁.os ∧ AllBare s'.gens) s₁) :
  WalkO q loose XP YP l.row.toRowW d [] (fun f vs => PySem.call f vs) := by
 intro w s₀ s₁ mg mb G Y fa o pm cd doc dV kV ho hd hcd hD hmg hg args vals as hpre hlay hrd hwl hlo
 obtain rfl : dV = .none := Dflts.none hD hdf
 obtain rfl : kV = .none := Dflts.noKw hD
 obtain ⟨a, vs, ns, rfl, rfl, hobj, hints, hlen⟩ := script_of hn hpre hwl
 refine enter_call (codeAny_mono (call w s₀ s₁ mg mb fa o pm cd doc a vs ns G Y ho (fd_plain hd) hcd hmg hobj hints hlen hg) fun r s' hq => ?_)
 obtain ⟨rfl, h2, h3, h4⟩ := hq
 exact ⟨.inl ⟨.bool true, .bool true, [], rfl, fun _ => rfl, .bool true, post_true l _, fun _ => ⟨List.Pairwise.nil, fun _ hm => (nomatch hm)⟩⟩, h2, h3, h4⟩
section
variable {prog : Program} {w : World} {A : Around} {E : Value → Shared → Prop} {s : Shared} {K : Frag}
end
end Att
namespace L2
open PySem PySem.Spec PyProof.Rows
theorem vals_ints : ∀ {vs : List Value} {ns : List Int}, IntsAre vs ns → Vals (ns.map V.int) vs
 | _, _, .nil => .nil
 | _, _, .cons n t h => .cons ⟨t, rfl⟩ (vals_ints h)
noncomputable def Only (H : Hp) : Prop := ∀ b, H b = none ∨ ∃ o xs, H b = some (.frz o (.lst xs))
theorem law_call {P : Program} {w : World} {K : PySem.W.Frag} {mg mb : Str → Option Value} {CX : CXT} {k : Nat} {fa a : Addr} {fd : FuncData} {x : Str} {sp : Sp} {s₁ : Shared} {vs : List Value} {ns : List Int}
  (KX : K.In s₁.heap) (hns : s₁.heap.Ns mainGlobals mg) (hb : s₁.heap.Ns builtinsNs mb) (hbb : ∀ x : Str, x ≠ "__name__" → mb x = bootBuiltins x) (hlim : s₁.heap.NoLimit) (hg : s₁.gens = #[])
  (ha : s₁.heap.get? a = some { cls := .type "list", data := .seq vs.toArray }) (hi : IntsAre vs ns) (hl : ns.length ≤ sizeLine) (hr : Room k callerA)
  (F : ∀ base : Heap, K.In base → base.Ns mainGlobals mg → FnOk P w K mg base CX k fa fd [x] sp) (hbind : ∀ (s : Shared) (u : Value), BindsTo s fd ⟨[u], []⟩ [(x, u)])
  (hsp : ∀ H : Hp, Only H → SqL K H a (ns.map V.int) → sp [.ref a] H (fun v _ => v = .bl true) fun _ _ _ => False)
  (hCX : ∀ H e s', CX [] H s₁ (fun _ _ _ => False) e s' → False) :
  codeAny (model P w) callerA (.call (.ref fa) ⟨[.ref a], []⟩) (fun r s' => r = .ok (.ret (.bool true)) ∧ OldK s₁.heap s'.heap ∧ s'.os = s₁.os ∧ AllBare s'.gens) s₁ := by
 have rv := vals_ints hi
 have lenV := hi.length
 have core : ∀ H : Hp, Only H → SqL K H a (ns.map V.int) → HOk P w H s₁.heap → (∀ b, H b ≠ none → b = a) → (H a ≠ none → K.lookup a = none) →
   codeAny (model P w) callerA (.call (.ref fa) ⟨[.ref a], []⟩) (fun r s' => r = .ok (.ret (.bool true)) ∧ OldK s₁.heap s'.heap ∧ s'.os = s₁.os ∧ AllBare s'.gens) s₁ := by
  intro H hO hS hok hA hK
  have base_of : ∀ {b : Addr} {o : Obj}, s₁.heap.get? b = some o → H b = none → (hidT s₁.heap H).get? b = some o := fun e n => hidT_get e n
  have noA : ∀ {b : Addr} {o : Obj} {es : Array DictEntry} {ep : Nat}, s₁.heap.get? b = some o → o.data = .dict es ep → H b = none := fun {b o es ep} e d => by
   cases q : H b with
   | none => rfl
   | some u =>
    have e' : b = a := hA b (by rw [q]; simp)
    subst e'
    rw [ha] at e; cases e
    have d' : Data.seq vs.toArray _ = Data.dict es ep := d
    cases d'
  have nsK : ∀ {b : Addr} {m : Str → Option Value}, s₁.heap.Ns b m → (hidT s₁.heap H).Ns b m := fun {b m} ⟨o, es, ep, e, d, r⟩ => ⟨o, es, ep, base_of e (noA e d), d, r⟩
  have hKb : K.In (hidT s₁.heap H) := fun b o e => base_of (KX b o e) (by
   cases q : H b with
   | none => rfl
   | some u =>
    have e' : b = a := hA b (by rw [q]; simp)
    subst e'
    rw [hK (by rw [q]; simp)] at e; cases e)
  have hM : Mod K mg (hidT s₁.heap H) := ⟨hKb, nsK hns, ⟨mb, nsK hb, hbb⟩, let ⟨mc, h1, h2⟩ := hlim; ⟨mc, nsK h1, h2⟩⟩
  have e0 : Env0 P w K mg (hidT s₁.heap H) callerA [] s₁ H := ⟨rfl, hM, fun b o e => of_hidT e, Nat.le_of_eq (hidT_size _ _), trivial, fun b hb => absurd (show b ∈ ([] : List Addr) from hb) (by simp), hok, .of_eq hg⟩
  refine codeAny_mono ((F _ hKb (nsK hns)).run callerA [] s₁ H ⟨[.ref a], []⟩ [.ref a] [.ref a] _ _ hr e0 (hbind s₁ (.ref a)) (.cons rfl .nil) (hsp H hO hS)) fun r s' h => ?_
  cases r with
  | error e => exact (hCX H e s' h).elim
  | ok fl =>
   cases fl with
   | next => exact False.elim h
   | brk => exact False.elim h
   | cont => exact False.elim h
   | ret u =>
    obtain ⟨v, H', os, bare, un, hok', r', q⟩ := h
    have q' : v = .bl true := q
    subst q'
    obtain rfl : u = Value.bool true := r'
    refine ⟨rfl, OldK.of_keep fun b o e => ?_, os, bare⟩
    cases q : H b with
    | none => exact un.keep b o e q (by intro z; exact absurd (show b ∈ ([] : List Addr) from z) (by simp)) (by simp)
    | some u =>
     rcases hO b with z | ⟨ob, xs, z⟩
     ·rw [q] at z; cases z
     ·have z2 := un.frzs b ob _ z
      obtain ⟨e1, _⟩ := hok b _ z
      obtain ⟨e2, _⟩ := hok' b _ z2
      rw [e] at e1; cases e1
      exact e2
 cases hk : K.lookup a with
 | some o =>
  have e := KX a o hk
  rw [ha] at e
  cases e
  refine core (fun _ => none) (fun _ => .inl rfl) (.inr ⟨_, vs.toArray, _, hk, rfl, rfl, rfl, by rw [List.size_toArray, lenV]; exact hl, by simpa using rv⟩) (fun b u z => by have z' : (none : Option HO) = some u := z; cases z') (fun b z => absurd rfl z) fun z => absurd rfl z
 | none =>
  refine core (fun b => if b = a then some (.frz { cls := .type "list", data := .seq vs.toArray } (.lst (ns.map V.int))) else none) (fun b => ?_) (.inl (.inr ⟨{ cls := .type "list", data := .seq vs.toArray }, if_pos rfl⟩)) (fun b u z => ?_) (fun b z => ?_) fun _ => hk
  ·by_cases hb : b = a
   ·exact .inr ⟨_, _, if_pos hb⟩
   ·exact .inl (if_neg hb)
  ·by_cases hb : b = a
   ·have z' := (if_pos hb).symm.trans z
    cases z'
    subst hb
    exact ⟨ha, by rw [List.length_map]; exact hl, vs, _, rv, ha⟩
   ·have z' := (if_neg hb).symm.trans z
    cases z'
  ·by_cases hb : b = a
   ·exact hb
   ·exact absurd (if_neg hb) z
end L2
namespace L2
open PySem PySem.Spec PyProof.Rows
theorem walk_of {l : PySem.W.OpenLaw} {n k : Nat} {q : Program} {loose : List Str} {XP : (Str → Option Value) → Heap → Prop} {YP : World → Heap → Prop} {d : DefRec} {K : Params → PySem.W.Frag} {CX : World → CXT} {sp : World → Sp} {x : Str}
  (hn : l.most = some n) (hn2 : n ≤ sizeLine) (hdf : d.params.defaults = []) (hr : Room k callerA)
  (hY : ∀ (w : World) (h : Heap), YP w h → (K w.params).In h)
  (F : ∀ (w : World) (mg : Str → Option Value) (fa : Addr) (h : Heap), (K w.params).In h → h.Ns mainGlobals mg → mg d.name = some (.ref fa) →
   ∃ fd : FuncData, (∀ (s : Shared) (u : Value), BindsTo s fd ⟨[u], []⟩ [(x, u)]) ∧
    ∀ base : Heap, (K w.params).In base → base.Ns mainGlobals mg → FnOk l.prog w (K w.params) mg base (CX w) k fa fd [x] (sp w))
  (hsp : ∀ (w : World) (H : Hp) (a : Addr) (ns : List Int), ns.length ≤ n → Only H → SqL (K w.params) H a (ns.map V.int) → sp w [.ref a] H (fun v _ => v = .bl true) fun _ _ _ => False)
  (hCX : ∀ (w : World) (H : Hp) (s : Shared) (e : Value) (s' : Shared), CX w [] H s (fun _ _ _ => False) e s' → False) :
  PySem.W.WalkO q loose XP YP l.row.toRowW d [] (fun f vs => PySem.call f vs) := by
 refine Att.attach_call hn hdf fun w s₀ s₁ mg mb fa o pm cd doc a vs ns G Y ho hd hcd hmg hobj hints hlen hg => ?_
 have KX := hY w _ Y
 obtain ⟨fd, hb, hF⟩ := F w mg fa _ KX G.T.g hmg
 exact law_call KX G.T.g G.T.b G.T.builtins G.T.nolimit hg hobj hints (Nat.le_trans hlen hn2) hr hF hb (fun H hO hS => hsp w H a ns hlen hO hS) fun H e s' => hCX w H s₁ e s'
end L2
/- THE LAST THEOREM (shape; LID, My.* are yours):
  My.Adr: a structure of the addresses that your layer names (classes, functions); My.Txt K t: a structure (Prop) of the equations over K;
  My.txt_mk : {K} {implicit addresses ..} (e1 : nsIn K mainGlobals "law" = some (some (.ref f))) (e2 : K.lookup f = some ⟨oc, od, .func (fnOf "law" "law" params body scope dV kV doc pm an cdv ct), sl⟩) (e3 : codeIn K cdv "law" = true) .. : ∃ t, My.Txt K t
(the tactic k_is has no namespace: write k_is) -/
namespace L2
open PySem PySem.Spec PyProof.Rows
noncomputable def defArgs (s : Stmt) : Arguments := match s with
 | .FunctionDef _ a _ _ _ _ _ _ _ _ => a
 | _ => { posonlyargs := [], args := [], vararg := none, kwonlyargs := [], kw_defaults := [], kwarg := none, defaults := [] }
noncomputable def defBody (s : Stmt) : List Stmt := match s with
 | .FunctionDef _ _ b _ _ _ _ _ _ _ => b
 | _ => []
noncomputable def defScope (s : Stmt) : Scope := match s with
 | .FunctionDef _ _ _ _ _ _ sc _ _ _ => sc
 | _ => { kind := .function, names := [], isGenerator := false, isCoroutine := false }
noncomputable abbrev CX0 : CXT := fun _ _ _ _ _ _ => False
noncomputable abbrev E0 : XK := fun _ _ _ => False
theorem pass0 {X : Cx} : Passes CX0 X E0 := fun _ _ _ _ _ _ _ h => h.elim
structure Fun (K : PySem.W.Frag) (x qual : Str) (st : Stmt) (f : Addr) (fd : FuncData) : Prop where
 ex : ∃ (oc : Value) (od : Option Addr) (kV doc pm : Value) (an : Option Addr) (cdv ct : Value) (osl : Array (Option Value)),
  fd = PySem.W.fnOf x qual (defArgs st) (defBody st) (defScope st) .none kV doc pm an cdv ct ∧ K.lookup f = some ⟨oc, od, .func fd, osl⟩ ∧ PySem.W.codeIn K cdv qual = true
 kp : PySem.W.keepIn K (.ref f) = true
section
variable {P : Program} {w : World} {K : PySem.W.Frag} {mg : Str → Option Value} {base : Heap}
theorem Fun.ok {x qual : Str} {st : Stmt} {f : Addr} {fd : FuncData} {N ps : List Str} {k : Nat} {sp : Sp} (F : Fun K x qual st f fd) (S : FnScope N ps (defScope st)) (len : ∀ vs H Q E, sp vs H Q E → vs.length = ps.length)
  (hbody : ∀ (cdv : Value) (A : Around) (outer : List Env) (s : Shared) (H : Hp) (vs : List V) (Q : VK) (E : XK), Room k (A.deeper (envOfC qual (defScope st) s.heap.objs.size f cdv)) → sp vs H Q E →
   ∃ t, PSs (cxOf CX0 P w K mg base N qual (defScope st) f cdv A outer s H E).nox (defBody st) t ∧ t { nx := fun _ H' => Q .non H', rt := Q } (start N vs) H) : FnOk P w K mg base CX0 (k + 1) f fd ps sp := by
 obtain ⟨oc, od, kV, doc, pm, an, cdv, ct, osl, rfl, lk, hcd⟩ := F.ex
 refine fn_of lk hcd S len fun A outer s H vs Q E hr hsp => ?_
 obtain ⟨t, h, q⟩ := hbody cdv A outer s H vs Q E hr hsp
 exact ⟨t, h.nox, q⟩
theorem Fun.binds {x qual : Str} {st : Stmt} {f : Addr} {fd : FuncData} {ps : List Str} (F : Fun K x qual st f fd)
  (h : ∀ (kV doc pm : Value) (an : Option Addr) (cdv ct : Value) (us : List Value), us.length = ps.length → bindArgs (PySem.W.fnOf x qual (defArgs st) (defBody st) (defScope st) .none kV doc pm an cdv ct) ⟨us, []⟩ = pure (ps.zip us)) : Binds K fd ps [] := by
 obtain ⟨oc, od, kV, doc, pm, an, cdv, ct, osl, rfl, lk, hcd⟩ := F.ex
 exact .all (h kV doc pm an cdv ct)
theorem fun_mk {x qual : Str} {st : Stmt} {f : Addr} {oc : Value} {od an : Option Addr} {osl : Array (Option Value)} {kV doc pm cdv ct : Value} (l : K.lookup f = some ⟨oc, od, .func (PySem.W.fnOf x qual (defArgs st) (defBody st) (defScope st) .none kV doc pm an cdv ct), osl⟩)
  (c : PySem.W.codeIn K cdv qual = true) (k : PySem.W.keepIn K (.ref f) = true) : Fun K x qual st f (PySem.W.fnOf x qual (defArgs st) (defBody st) (defScope st) .none kV doc pm an cdv ct) := ⟨⟨oc, od, kV, doc, pm, an, cdv, ct, osl, rfl, l, c⟩, k⟩
end
theorem small1000 {n : Nat} (h : n ≤ 1000) : n < sizeLine := Nat.lt_of_le_of_lt h (by decide)
section
variable {X : Cx}
end
noncomputable def Same (H H' : Hp) : Prop := ∀ b o, H b = some o → H' b = some o
theorem Same.refl (H : Hp) : Same H H := fun _ _ h => h
theorem Same.trans {H H1 H2 : Hp} (a : Same H H1) (b : Same H1 H2) : Same H H2 := fun c o h => b c o (a c o h)
theorem Same.free {H H' : Hp} (e : Same H H') {l : Addr} (h : H' l = Option.none) : H l = Option.none := by
 cases q : H l with
 | none => rfl
 | some o =>
  rw [e l o q] at h
  cases h
theorem Same.seq {K : PySem.W.Frag} {H H' : Hp} {a : Addr} {xs : List V} (e : Same H H') (h : SqL K H a xs) : SqL K H' a xs := by
 rcases h with (h | ⟨o, h⟩) | h
 ·exact .inl (.inl (e _ _ h))
 ·exact .inl (.inr ⟨o, e _ _ h⟩)
 ·exact .inr h
section
variable {X : Cx}
theorem call_lenD : CallR X (.builtin "len") (fun xs H Q => ∃ a kvs, xs = [V.ref a] ∧ H a = some (.dK kvs) ∧ Q (.int kvs.length) H) := by
 intro pins s σ H xs us Q I r h
 obtain ⟨a, kvs, rfl, ha, q⟩ := h
 obtain ⟨u, rfl, ru⟩ := vals1 r
 cases ru
 exact d_len I (.inl ha) fun t s' I' => ⟨.int kvs.length, H, I', ⟨t, rfl⟩, q⟩
end
section
variable {κ : Type} [DecidableEq κ]
end
end L2
namespace L2
open PySem PySem.Spec PyProof.Rows
theorem ObjOk.there {P : Program} {w : World} {H : Hp} {h : Heap} {a : Addr} {o : HO} (x : ObjOk P w H h a o) : ∃ ob, h.get? a = some ob := by
 cases o with
 | lst xs => obtain ⟨_, _, _, _, e⟩ := x; exact ⟨_, e⟩
 | tup xs => obtain ⟨_, _, _, p⟩ := x; obtain ⟨_, e, _⟩ := p; exact ⟨_, e⟩
 | dK kvs => obtain ⟨_, _, _, _, o, _, _, e, _⟩ := x; exact ⟨_, e⟩
 | dT kvs => obtain ⟨_, _, _, _, o, _, _, e, _⟩ := x; exact ⟨_, e⟩
 | set S n => obtain ⟨o, _, _, _, e, _⟩ := x; exact ⟨_, e⟩
 | ins C dx fs => obtain ⟨_, _, _, e, _⟩ := x; exact ⟨_, e⟩
 | own y => obtain ⟨_, e⟩ := x; exact ⟨_, e⟩
 | xd fs => obtain ⟨_, ⟨_, _, _, e, _⟩, _⟩ := x; exact ⟨_, e⟩
 | rng lo hi => obtain ⟨_, _, _, e⟩ := x; exact ⟨_, e⟩
 | frz ob u => obtain ⟨e, _⟩ := x; exact ⟨_, e⟩
 | tbl ps => exact ⟨_, show h.get? a = some _ from x⟩
 | met f y => exact ⟨_, show h.get? a = some _ from x⟩
 | ext φ => obtain ⟨_, ⟨_, e⟩, _⟩ := x; exact ⟨_, e⟩
noncomputable def CX1 (P : Program) (w : World) : CXT := fun outer H s E ev s' => ∃ (e t C : Addr) (H' : Hp) (B : Heap), ev = .ref e ∧ s'.os = s.os ∧ AllBare s'.gens ∧ Un (frs outer) [] H H' s.heap s'.heap ∧ HOk P w H' s'.heap ∧ E (.ref C) none H' ∧
 Heap.FlyingW B outer e (.ref C) (.ref t) s'.heap ∧ (∀ b o, s.heap.get? b = some o → b ∉ frs outer → ∃ o', B.get? b = some o') ∧ ∀ b o, H' b = some o → ∃ o', B.get? b = some o'
theorem raise_xe {P : Program} {w : World} {K : PySem.W.Frag} {mg : Str → Option Value} {base : Heap} {N : List Str} {qual : Str} {scope : Scope} {f : Addr} {cd : Value} {A : Around} {outer : List Env} {s : Shared} {H : Hp} {E : XK}
  {pins : List (Addr × Obj)} {σ : L2.St} {H2 : Hp} {s2 : Shared} {h' : Heap} {e C : Addr} {vs : List Value}
  (I : Inv (cxOf (CX1 P w) P w K mg base N qual scope f cd A outer s H E) pins σ H2 s2) (hx : Heap.MadeExcOf s2.heap h' e (.ref C) vs) (hE : E (.ref C) none H2) :
  (cxOf (CX1 P w) P w K mg base N qual scope f cd A outer s H E).xe (.ref e) { s2 with heap := h' } := by
 have hin : ∀ env ∈ (envOfC qual scope s.heap.objs.size f cd :: outer), ∀ b, env.frame = some b → b ∈ frs (envOfC qual scope s.heap.objs.size f cd :: outer) := fun env he b hb => List.mem_filterMap.mpr ⟨env, he, hb⟩
 have hst := I.stack
 have hnf : ∀ b, b ∈ frs (envOfC qual scope s.heap.objs.size f cd :: outer) → H2 b = none := I.stkFree
 show wpAny _ _ (leaving _ (.ref e)) _ _ _
 refine wpAny_leaves_madeW (base := PySem.W.hideAll s2.heap (frs (envOfC qual scope s.heap.objs.size f cd :: outer))) (h := s2.heap) I.ok.frames rfl (fun b o q => PySem.W.of_hideAll _ q) (PySem.W.funFrames_hide hst hin) hx fun h'' t fl tup bt up => ?_
 have keep : ∀ b o, s2.heap.get? b = some o → b ∉ frs (envOfC qual scope s.heap.objs.size f cd :: outer) → h''.get? b = some o := fun b o q nf => fl.1 b o (PySem.W.hideAll_get _ q nf)
 have slot : ∀ b o, s2.heap.get? b = some o → b ∈ frs (envOfC qual scope s.heap.objs.size f cd :: outer) → ∃ sl, h''.get? b = some { o with slots := sl } := fun b o q hb => by
  obtain ⟨_, o', ho', hnr⟩ := hst.mem hb
  rw [q] at ho'
  cases ho'
  exact up b o (hx.keeps b o q) hnr
 have nl : ∀ b o, s.heap.get? b = some o → b ∉ frs outer → b ∉ frs (envOfC qual scope s.heap.objs.size f cd :: outer) := fun b o q nb hb => by
  rcases List.mem_cons.mp (show b ∈ s.heap.objs.size :: frs outer from hb) with z | z
  ·exact absurd (Heap.lt_size q) (by rw [z]; exact Nat.lt_irrefl _)
  ·exact nb z
 have U := I.base
 refine ⟨e, t, C, H2, _, rfl, I.os, I.bare, ⟨fun b o q n nb _ => ?_, fun b o q n hb _ => ?_, fun b o q n _ => U.free b o q n (fun z => nomatch z), fun b o q _ => ?_, U.tups, U.frzs, U.tbls⟩, fun a o q => ?_, hE, fl, fun b o q nb => ?_, fun b o q => ?_⟩
 ·exact keep b o (U.keep b o q n nb (fun z => nomatch z)) (nl b o q nb)
 ·obtain ⟨sl, e1⟩ := U.slot b o q n hb (fun z => nomatch z)
  obtain ⟨sl2, e2⟩ := slot b _ e1 (List.mem_cons_of_mem _ hb)
  exact ⟨sl2, e2⟩
 ·obtain ⟨o', e1⟩ := U.there b o q (fun z => nomatch z)
  by_cases hb : b ∈ frs (envOfC qual scope s.heap.objs.size f cd :: outer)
  ·obtain ⟨sl, e2⟩ := slot b o' e1 hb
   exact ⟨_, e2⟩
  ·exact ⟨o', keep b o' e1 hb⟩
 ·refine (I.hok a o q).stay (fun c v hc r => keep c v r fun hb => ?_) (fun _ r => r) fun _ _ r => r
  have := hnf c hb
  rcases hc with rfl | hc
  ·rw [this] at q; cases q
  ·rw [this] at hc; cases hc
 ·obtain ⟨o', e1⟩ := U.there b o q (fun z => nomatch z)
  exact ⟨o', PySem.W.hideAll_get _ e1 (nl b o q nb)⟩
 ·obtain ⟨o', e1⟩ := ObjOk.there (I.hok b o q)
  exact ⟨o', PySem.W.hideAll_get _ e1 fun hb => by rw [hnf b hb] at q; cases q⟩
theorem pass_xe {P : Program} {w : World} {K : PySem.W.Frag} {mg : Str → Option Value} {base : Heap} {N : List Str} {qual : Str} {scope : Scope} {f : Addr} {cd : Value} {A : Around} {outer : List Env} {s : Shared} {H : Hp} {E E2 : XK}
  {pins : List (Addr × Obj)} {σ : L2.St} {H2 : Hp} {s2 s3 : Shared} {ev : Value}
  (I : Inv (cxOf (CX1 P w) P w K mg base N qual scope f cd A outer s H E) pins σ H2 s2) (hx : CX1 P w (envOfC qual scope s.heap.objs.size f cd :: outer) H2 s2 E2 ev s3) (hE : ∀ c H', E2 c none H' → E c none H') :
  (cxOf (CX1 P w) P w K mg base N qual scope f cd A outer s H E).xe ev s3 := by
 obtain ⟨e, t, C, H', B, rfl, hos, hbare, U2, hok, hE2, fl0, cov, covT⟩ := hx
 have hst := I.stack
 have hnf : ∀ b, b ∈ frs (envOfC qual scope s.heap.objs.size f cd :: outer) → H2 b = none := I.stkFree
 show wpAny _ _ (leaving _ (.ref e)) _ _ _
 refine wpAny_leaves_onW I.ok.frames rfl fl0 fun h'' fl up => ?_
 have U := I.base
 have nl : ∀ b o, s.heap.get? b = some o → b ∉ frs outer → b ∉ frs (envOfC qual scope s.heap.objs.size f cd :: outer) := fun b o q nb hb => by
  rcases List.mem_cons.mp (show b ∈ s.heap.objs.size :: frs outer from hb) with z | z
  ·exact absurd (Heap.lt_size q) (by rw [z]; exact Nat.lt_irrefl _)
  ·exact nb z
 have same : ∀ b o o', s3.heap.get? b = some o → B.get? b = some o' → h''.get? b = some o := fun b o o' q1 q2 => by
  have := fl0.1 b o' q2
  rw [q1] at this
  cases this
  exact fl.1 b o q2
 have slot : ∀ b o, s3.heap.get? b = some o → b ∈ frs (envOfC qual scope s.heap.objs.size f cd :: outer) → ∃ sl, h''.get? b = some { o with slots := sl } := fun b o q hb => by
  obtain ⟨_, o', ho', hnr⟩ := fl0.2.2.1.mem hb
  rw [q] at ho'
  cases ho'
  exact up b o q hnr
 refine ⟨e, t, C, H', B, rfl, hos.trans I.os, hbare, ⟨fun b o q n nb _ => ?_, fun b o q n hb _ => ?_, fun b o q n _ => ?_, fun b o q _ => ?_, fun b xs q => U2.tups b xs (U.tups b xs q), fun b o u q => U2.frzs b o u (U.frzs b o u q), fun b ps q => ?_⟩, fun a o q => ?_, hE _ _ hE2, fl, fun b o q nb => ?_, covT⟩
 ·have q1 := U.keep b o q n nb (fun z => nomatch z)
  have n1 := U.free b o q n (fun z => nomatch z)
  have nl1 := nl b o q nb
  obtain ⟨o', hB⟩ := cov b o q1 nl1
  exact same b o o' (U2.keep b o q1 n1 nl1 (fun z => nomatch z)) hB
 ·obtain ⟨sl, e1⟩ := U.slot b o q n hb (fun z => nomatch z)
  have n1 := U.free b o q n (fun z => nomatch z)
  obtain ⟨sl2, e2⟩ := U2.slot b _ e1 n1 (List.mem_cons_of_mem _ hb) (fun z => nomatch z)
  obtain ⟨sl3, e3⟩ := slot b _ e2 (List.mem_cons_of_mem _ hb)
  exact ⟨sl3, e3⟩
 ·have n1 := U.free b o q n (fun z => nomatch z)
  obtain ⟨o1, e1⟩ := U.there b o q (fun z => nomatch z)
  exact U2.free b o1 e1 n1 (fun z => nomatch z)
 ·obtain ⟨o1, e1⟩ := U.there b o q (fun z => nomatch z)
  obtain ⟨o2, e2⟩ := U2.there b o1 e1 (fun z => nomatch z)
  by_cases hb : b ∈ frs (envOfC qual scope s.heap.objs.size f cd :: outer)
  ·obtain ⟨sl, e3⟩ := slot b o2 e2 hb
   exact ⟨_, e3⟩
  ·obtain ⟨o', hB⟩ := cov b o1 e1 hb
   exact ⟨o2, same b o2 o' e2 hB⟩
 ·obtain ⟨m1, e1⟩ := U.tbls b ps q
  obtain ⟨m2, e2⟩ := U2.tbls b _ e1
  exact ⟨m1 ++ m2, by rw [e2, Array.append_assoc]⟩
 ·refine (hok a o q).stay (fun c v hc r => ?_) (fun _ r => r) fun _ _ r => r
  have hT : ∃ o1, H' c = some o1 := by
   rcases hc with rfl | hc
   ·exact ⟨_, q⟩
   ·exact ⟨_, hc⟩
  obtain ⟨o1, h1⟩ := hT
  obtain ⟨o', hB⟩ := covT c o1 h1
  exact same c v o' r hB
 ·obtain ⟨o1, e1⟩ := U.there b o q (fun z => nomatch z)
  exact cov b o1 e1 (nl b o q nb)
end L2
namespace L2
open PySem PySem.Spec PyProof.Rows
theorem own_in {K : PySem.W.Frag} {h : Heap} {mg : Str → Option Value} {x : Str} {C : Addr} {bmB : List Value} {newId : String} (X : K.In h) (hx : mg x = some (.ref C)) (q : PySem.W.excIn K C bmB newId = true) : OwnCls x C bmB newId mg h := by
 refine ⟨hx, ?_⟩
 unfold PySem.W.excIn at q
 match hl : K.lookup C with
 | none => rw [hl] at q; cases q
 | some o =>
  rw [hl] at q
  split at q
  ·rename_i dd cd sl e
   cases e
   split at q
   ·rename_i C' bm k0 k1 k2 k3 n k5 hm hs
    simp only [Bool.and_eq_true, beq_iff_eq, Bool.not_eq_true'] at q
    obtain ⟨⟨⟨⟨⟨e1, e2⟩, e3⟩, e4⟩, e5⟩, e6⟩ := q
    subst e1 e2
    cases cd
    simp only at hm e3 e5 e6
    subst hm e3
    cases sl
    simp only at hs
    subst hs
    exact ⟨_, _, _, _, _, _, _, _, _, _, _, _, _, _, _, _, _, X _ _ hl, .of_isNs (PySem.W.isNs_of_in X e5), PySem.W.nsMap_none_of_in X e5 e6, PySem.W.tail_of_in X e4⟩
   ·cases q
  ·cases q
noncomputable def tRaise (X : Cx) (C : Addr) : TS := fun _ σ H => ∀ (pins : List (Addr × Obj)) (s : Shared) (h' : Heap) (e : Addr) (vs : List Value), Inv X pins σ H s → Heap.MadeExcOf s.heap h' e (.ref C) vs → X.xe (.ref e) { s with heap := h' }
theorem ps_raise {X : Cx} {x : Str} {C : Addr} {bmB : List Value} {B newId initId : String} {np cpos pos p2 : Pos} {m : Str} {j : Nat} (F : ExcBaseFacts B newId initId bmB) (hc : X.calm = true) (hg : Gl X x) (hm : X.mg x = some (.ref C)) (q : PySem.W.excIn X.K C bmB newId = true)
  (hpl : (backTo cpos (starEach [.Constant (.str m) j p2] X.env)).any (·.1) = false := by rfl) (hs : starEach [.Constant (.str m) j p2] X.env = (false, eval (.Constant (.str m) j p2) X.env) :: starEach [] X.env := by rfl) (hd : (x == ("__debug__" : Str)) = false := by decide) :
  PS X (.Raise (some (.Call (.Name x np) [.Constant (.str m) j p2] [] cpos)) none pos) (tRaise X C) := by
 intro pins s σ H D I h
 have e0 := I.env0
 have KX : X.K.In s.heap := e0.mod.kin.keeps fun b o e => (e0.bs b o e).1
 obtain ⟨bm, N, nm, qn, bs, hdct, sn, sub, ab, col, dd, k0, k1, k2, k3, k5, mN, hC, hN, hni, T⟩ := (own_in KX hm q).obj
 refine wpAny_Raise_call_subT (C := C) (nm := nm) (q := qn) (N := N) (bs := bs) (bm := bm) (hdct := hdct) (sn := sn) (sub := sub) (ab := ab) (col := col) (dd := dd) (k0 := k0) (k1 := k1) (k2 := k2) (k3 := k3) (k5 := k5) F (T.hasType F.hasBase) (I.ok.hd hc) hpl hni (ld_glob I hg hm ⟨rfl, ?_⟩ hd)
 refine Calls.evalArgs_plain (Calls.spliced_cons (Calls.Constant_str (k := j) (pos := p2) (Calls.spliced_nil ?_)))
 exact ⟨rfl, by show 1 ≤ sizeLine; decide, hC, hN, T, fun h' e hx => h pins _ h' e _ (I.tok _) hx⟩
end L2
namespace L2
open PySem PySem.Spec PyProof.Rows
theorem Un.held {P : Program} {w : World} {l : List Env} {H H' : Hp} {h0 h3 h5 B : Heap} {e : Addr} {cls a0 : Value} (U : Un (frs l) [] H H' h0 h3) (hok : HOk P w H' h3) (fl : Heap.FlyingW B l e cls a0 h3) (st : B.StaysIn h5) (up : h3.UpToSlots h5)
  (cov : ∀ b o, h0.get? b = some o → b ∉ frs l → ∃ o', B.get? b = some o') (covT : ∀ b o, H' b = some o → ∃ o', B.get? b = some o') : Un (frs l) [] H H' h0 h5 ∧ HOk P w H' h5 := by
 have same : ∀ b o o', h3.get? b = some o → B.get? b = some o' → h5.get? b = some o := fun b o o' q1 q2 => by
  have := fl.1 b o' q2
  rw [q1] at this
  cases this
  exact st b o q2
 have slot : ∀ b o, h3.get? b = some o → b ∈ frs l → ∃ sl, h5.get? b = some { o with slots := sl } := fun b o q hb => by
  obtain ⟨_, o', ho', hnr⟩ := fl.2.2.1.mem hb
  rw [q] at ho'
  cases ho'
  exact up b o q hnr
 refine ⟨⟨fun b o q n nb hx => ?_, fun b o q n hb hx => ?_, U.free, fun b o q hx => ?_, U.tups, U.frzs, U.tbls⟩, fun a o q => ?_⟩
 ·obtain ⟨o', hB⟩ := cov b o q nb
  exact same b o o' (U.keep b o q n nb hx) hB
 ·obtain ⟨sl, e1⟩ := U.slot b o q n hb hx
  obtain ⟨sl2, e2⟩ := slot b _ e1 hb
  exact ⟨sl2, e2⟩
 ·obtain ⟨o2, e2⟩ := U.there b o q hx
  by_cases hb : b ∈ frs l
  ·obtain ⟨sl, e3⟩ := slot b o2 e2 hb
   exact ⟨_, e3⟩
  ·obtain ⟨o', hB⟩ := cov b o q hb
   exact ⟨o2, same b o2 o' e2 hB⟩
 ·refine (hok a o q).stay (fun c v hc r => ?_) (fun _ r => r) fun _ _ r => r
  have hT : ∃ o1, H' c = some o1 := by
   rcases hc with rfl | hc
   ·exact ⟨_, q⟩
   ·exact ⟨_, hc⟩
  obtain ⟨o1, h1⟩ := hT
  obtain ⟨o', hB⟩ := covT c o1 h1
  exact same c v o' r hB
end L2
namespace L2
open PySem PySem.Spec PyProof.Rows
section
variable {M : Model} {A : Around} {E : Value → Shared → Prop} {h : Heap} {g : Array GenState} {d : Drawn} {t : Nat} {os : OsState} {e C : Addr} {oe : Obj}
 {nm q : Str} {N : Addr} {bs bm : List Value} {hdct : Bool} {sn : List Str} {sub : List Value} {ab : Bool} {col : Option Bool} {dd : Option Addr} {k0 k1 k2 k3 k5 : Option Value} {newId : String}
 {nm' q' : Str} {N' D : Addr} {bs' bm' : List Value} {hdct' : Bool} {sn' : List Str} {sub' : List Value} {ab' : Bool} {col' : Option Bool} {dd' : Option Addr} {k0' k1' k2' k3' k5' : Option Value} {newId' : String}
theorem excMatches_own {Q : Bool → Shared → Prop} (hC : h.get? C = some (excClassObj nm q C N bs bm hdct sn sub ab col dd k0 k1 k2 k3 k5 newId)) (he : h.get? e = some oe) (hcls : oe.cls = .ref C)
  (hD : h.get? D = some (excClassObj nm' q' D N' bs' bm' hdct' sn' sub' ab' col' dd' k0' k1' k2' k3' k5' newId')) (hbase : bm'.contains (.type "BaseException") = true)
  (hq : Q ((Value.ref C :: bm).contains (.ref D)) ⟨h, g, d, t, os⟩) : wpAny M A (excMatches (.ref e) (.ref D)) Q E ⟨h, g, d, t, os⟩ := by
 have hcB : (Value.ref D :: bm').contains (.type "BaseException") = true := by rw [List.contains_cons, hbase, Bool.or_true]
 have f := tc_notTuple
 unfold excMatches
 cases hb : (Value.ref C :: bm).contains (.ref D) <;> rw [hb] at hq <;>
 repeat (first | (with_reducible refine wpAny_loadPart_at he ?_; rw [hcls]) | with_reducible refine wpAny_loadPart_at hD ?_ | (with_reducible refine wpAny_isSubtype_exc hD ?_; rw [hcB]) | (with_reducible refine wpAny_isSubtype_exc hC ?_; rw [hb]) | wp_step)
 all_goals exact hq
end
noncomputable def OwnAt (h : Heap) (C : Addr) (bm : List Value) : Prop := ∃ nm q N bs hdct sn sub ab col dd k0 k1 k2 k3 k5 newId, h.get? C = some (excClassObj nm q C N bs bm hdct sn sub ab col dd k0 k1 k2 k3 k5 newId) ∧ bm.contains (.type "BaseException") = true
theorem isExc_own {M : Model} {A : Around} {E : Value → Shared → Prop} {h : Heap} {g : Array GenState} {d : Drawn} {t : Nat} {os : OsState} {D : Addr} {bm' : List Value} {Q : Bool → Shared → Prop} (hD : OwnAt h D bm') (hq : Q true ⟨h, g, d, t, os⟩) : wpAny M A (isExcClass (.ref D)) Q E ⟨h, g, d, t, os⟩ := by
 obtain ⟨nm, q, N, bs, hdct, sn, sub, ab, col, dd, k0, k1, k2, k3, k5, newId, hD, hb⟩ := hD
 have hcB : (Value.ref D :: bm').contains (.type "BaseException") = true := by rw [List.contains_cons, hb, Bool.or_true]
 unfold isExcClass
 repeat (first | with_reducible refine wpAny_loadPart_at hD ?_ | (with_reducible refine wpAny_isSubtype_exc hD ?_; rw [hcB]) | wp_step)
 all_goals exact hq
theorem sub_own {M : Model} {A : Around} {E : Value → Shared → Prop} {h : Heap} {g : Array GenState} {d : Drawn} {t : Nat} {os : OsState} {C : Addr} {bm : List Value} {v : Value} {Q : Bool → Shared → Prop} (hC : OwnAt h C bm) (hq : Q ((Value.ref C :: bm).contains v) ⟨h, g, d, t, os⟩) : wpAny M A (isSubtype (.ref C) v) Q E ⟨h, g, d, t, os⟩ := by
 obtain ⟨nm, q, N, bs, hdct, sn, sub, ab, col, dd, k0, k1, k2, k3, k5, newId, hC, hb⟩ := hC
 exact wpAny_isSubtype_exc hC hq
theorem excMatches_tup {M : Model} {A : Around} {E : Value → Shared → Prop} {h : Heap} {g : Array GenState} {d : Drawn} {t : Nat} {os : OsState} {e C tup : Addr} {oe : Obj} {bm : List Value} {Ds : List Addr} {Q : Bool → Shared → Prop} (hC : OwnAt h C bm) (he : h.get? e = some oe) (hcls : oe.cls = .ref C)
  (ht : IsTup h tup (Ds.map Value.ref).toArray) (hD : ∀ D ∈ Ds, ∃ bm', OwnAt h D bm')
  (hq : Q (Ds.any fun D => (Value.ref C :: bm).contains (.ref D)) ⟨h, g, d, t, os⟩) : wpAny M A (excMatches (.ref e) (.ref tup)) Q E ⟨h, g, d, t, os⟩ := by
 obtain ⟨o, ho, hc, n, hd⟩ := ht
 unfold excMatches
 refine wpAny_bind (wpAny_isInstance ⟨o, ho, hc⟩ isSubtype_tuple_tuple ?_)
 dsimp only
 rw [if_pos rfl]
 refine wpAny_bind (wpAny_seqItems ho hd ?_)
 dsimp only [Option.getD_some, Option.getD]
 have hall : ∀ c ∈ Ds.map Value.ref, ∃ D bm', c = .ref D ∧ OwnAt h D bm' := fun c hm => by
  obtain ⟨D, hD', rfl⟩ := List.mem_map.mp hm
  obtain ⟨bm', h'⟩ := hD D hD'
  exact ⟨D, bm', rfl, h'⟩
 refine wpAny_bind (wpAny_pure (wpAny_bind ?_))
 refine wpAny_forIn_list _ (fun rest _ s => (∀ c ∈ rest, ∃ D bm', c = .ref D ∧ OwnAt h D bm') ∧ s = ⟨h, g, d, t, os⟩) _ (fun c rest b s ⟨hr, hs⟩ => ?_) (fun b s ⟨_, hs⟩ => ?_) _ _ ⟨hall, rfl⟩
 ·subst hs
  obtain ⟨D, bm', rfl, hown⟩ := hr c (.head _)
  exact wpAny_bind (isExc_own hown (wpAny_pure ⟨fun c hc => hr c (.tail _ hc), rfl⟩))
 ·subst hs
  refine wpAny_bind (wpAny_typeOf_ref he ?_)
  rw [hcls]
  refine wpAny_bind ?_
  refine wpAny_forIn_list _ (fun rest acc s => acc = (none, ()) ∧ s = ⟨h, g, d, t, os⟩ ∧ ∃ ds : List Addr, rest = ds.map Value.ref ∧ Q (ds.any fun D => (Value.ref C :: bm).contains (.ref D)) ⟨h, g, d, t, os⟩) _ (fun c rest b s ⟨ha, hs, ds, hr, hq⟩ => ?_) (fun b s ⟨ha, hs, ds, hr, hq⟩ => ?_) _ _ ⟨rfl, rfl, Ds, rfl, hq⟩
  ·subst hs ha
   cases ds with
   | nil => cases hr
   | cons D ds =>
    cases hr
    refine wpAny_bind (sub_own hC ?_)
    rw [List.any_cons] at hq
    cases hb : (Value.ref C :: bm).contains (.ref D) with
    | true => rw [hb] at hq; exact wpAny_pure (wpAny_pure hq)
    | false => rw [hb] at hq; exact wpAny_pure ⟨rfl, rfl, ds, rfl, hq⟩
  ·subst hs ha
   cases ds with
   | nil => exact wpAny_pure hq
   | cons D ds => cases hr
end L2
namespace L2
open PySem PySem.Spec PyProof.Rows
structure Cau (X : Cx) (pins : List (Addr × Obj)) (σ : L2.St) (H' : Hp) (e t C : Addr) (B : Heap) (s : Shared) : Prop where
 org : ∃ H0 s0, Inv X pins σ H0 s0 ∧ s.os = s0.os ∧ Un (frs X.stack) [] H0 H' s0.heap s.heap ∧ ∀ b o, s0.heap.get? b = some o → b ∉ frs X.stack → ∃ o', B.get? b = some o'
 bare : AllBare s.gens
 hok : HOk X.prog X.w H' s.heap
 fly : Heap.FlyingW B X.stack e (.ref C) (.ref t) s.heap
 cov : ∀ b o, H' b = some o → ∃ o', B.get? b = some o'
section
variable {X : Cx} {pins : List (Addr × Obj)} {σ : L2.St} {H' : Hp} {e t C : Addr} {B h' : Heap} {s : Shared}
theorem Cau.inv (c : Cau X pins σ H' e t C B s) : Inv X pins σ H' s := by
 obtain ⟨H0, s0, I, hos, U, _⟩ := c.org
 exact I.call' (ch := []) hos U c.hok c.bare fun b z => nomatch z
theorem Cau.slots {tk : Nat} (c : Cau X pins σ H' e t C B s) (fl : Heap.FlyingW B X.stack e (.ref C) (.ref t) h') (up : s.heap.UpToSlots h') : Cau X pins σ H' e t C B { s with heap := h', toks := tk } := by
 obtain ⟨H0, s0, I, hos, U, cov⟩ := c.org
 obtain ⟨U', hk⟩ := U.held c.hok c.fly fl.1 up cov c.cov
 exact ⟨⟨H0, s0, I, hos, U', cov⟩, c.bare, hk, fl, c.cov⟩
theorem flyingW_kept {l : List Env} {cls a0 : Value} {h : Heap} (fl : Heap.FlyingW B l e cls a0 h) (k : ∀ b o, h.get? b = some o → h'.get? b = some o) : Heap.FlyingW B l e cls a0 h' := by
 obtain ⟨f1, f2, f3, oe, vs, T, oT, ts, he, hc, hd, h1, hnT, hTe, hT, hdT, h3⟩ := fl
 exact ⟨fun b o q => k b o (f1 b o q), f2, f3.of_keeps fun b o q _ => ⟨o, k b o q, rfl⟩, oe, vs, T, oT, ts, k _ _ he, hc, hd, h1, hnT, hTe, k _ _ hT, hdT, h3⟩
theorem Cau.kept {tk : Nat} (c : Cau X pins σ H' e t C B s) (k : ∀ b o, s.heap.get? b = some o → h'.get? b = some o) : Cau X pins σ H' e t C B { s with heap := h', toks := tk } :=
 c.slots (flyingW_kept c.fly k) fun b o q _ => ⟨o.slots, k b o q⟩
end
theorem cau {X : Cx} {pins : List (Addr × Obj)} {σ : L2.St} {H : Hp} {s s3 : Shared} {ev : Value} {E2 : XK} {Q : Unit → Shared → Prop} {E : Value → Shared → Prop} (hs : X.stack = X.env :: X.outer) (hf : X.env.frame = some X.env.locals)
  (I : Inv X pins σ H s) (hx : CX1 X.prog X.w X.stack H s E2 ev s3)
  (k : ∀ e t C H' B h5, ev = .ref e → E2 (.ref C) none H' → Cau X pins σ H' e t C B { s3 with heap := h5 } → Q () { s3 with heap := h5 }) :
  wpAny (model X.prog X.w) X.A (noteFrame ev X.env) (fun _ s₂ => wpAny (model X.prog X.w) X.A (setFlight ev none) Q E s₂) E s3 := by
 obtain ⟨e, t, C, H', B, rfl, hos, hbare, U2, hok, hE2, fl0, cov, covT⟩ := hx
 refine wpAny_looks_onW (outer := X.outer) (by rw [I.ok.frames, hs]) hf (by rw [← hs]; exact fl0) fun h4 held up4 => ?_
 refine wpAny_landsW held fun h5 fl5 up5 => ?_
 obtain ⟨U, hk⟩ := U2.held hok fl0 fl5.1 (up4.trans up5) cov covT
 exact k e t C H' B h5 rfl hE2 ⟨⟨H, s, I, hos, U, cov⟩, hbare, hk, by rw [hs]; exact fl5, covT⟩
noncomputable abbrev Cx.mark (X : Cx) (ev : Value) : Cx := { X with A := X.A.mark (some ev), calm := false, xe := fun _ _ => False }
section
variable {X : Cx} {pins : List (Addr × Obj)} {σ : L2.St} {H : Hp} {s : Shared} {ev : Value}
theorem Inv.mark (I : Inv X pins σ H s) (ev : Value) : Inv (X.mark ev) pins σ H s :=
 ⟨⟨I.ok.mod, I.ok.kind, I.ok.glob, I.ok.blt, I.ok.above, I.ok.inj, I.ok.has, I.ok.cab, (fun h => by cases h), I.ok.frames, I.ok.stk, I.ok.exf, I.ok.bs, I.ok.bsz, I.ok.noex, I.ok.exfs, I.ok.funs, I.ok.frf⟩, I.os, I.bare, I.base, I.loc, I.cell, I.free, I.freeC, I.pin, I.hok, I.len⟩
theorem Inv.unmark (ok : X.Ok) (I : Inv (X.mark ev) pins σ H s) : Inv X pins σ H s := ⟨ok, I.os, I.bare, I.base, I.loc, I.cell, I.free, I.freeC, I.pin, I.hok, I.len⟩
theorem SP.unmark {D : Ends} {f : Flow} (ok : X.Ok) (h : SP (X.mark ev) pins D f s) : SP X pins D f s := by
 cases f with
 | next => obtain ⟨σ', H', I, q⟩ := h; exact ⟨σ', H', I.unmark ok, q⟩
 | brk => obtain ⟨σ', H', I, q⟩ := h; exact ⟨σ', H', I.unmark ok, q⟩
 | cont => obtain ⟨σ', H', I, q⟩ := h; exact ⟨σ', H', I.unmark ok, q⟩
 | ret u => obtain ⟨v, σ', H', I, r, q⟩ := h; exact ⟨v, σ', H', I.unmark ok, r, q⟩
end
end L2
namespace L2
open PySem PySem.Spec PyProof.Rows
noncomputable def Suite (X : Cx) (e : Addr) (name : Option Str) (body : List Stmt) (pos : Pos) (Q : Flow → Shared → Prop) (E : Value → Shared → Prop) (s : Shared) : Prop :=
 codeAny (model X.prog X.w) (X.A.mark (some (.ref e))) (.handlers (.ref e) [.ExceptHandler none name body pos] X.env) (fun r s₂ => match r with
  | .ok f => (match name with
   | none => Q f s₂
   | some n => wpAny (model X.prog X.w) X.A (do bindName X.env n .none; unbindBehindTheSuite X.env n pos) (fun _ s₃ => Q f s₃) E s₂)
  | .error x => cameBackBy (model X.prog X.w) X.A X.env E x s₂) s
section
variable {X : Cx} {pins : List (Addr × Obj)} {σ : L2.St} {H' : Hp} {e t C D : Addr} {B : Heap} {s : Shared} {bm : List Value} {x : Str} {np pos : Pos} {name : Option Str} {body : List Stmt} {rest : List ExceptHandler} {Q : Flow → Shared → Prop} {E : Value → Shared → Prop}
theorem hand_name (c : Cau X pins σ H' e t C B s) (hC : OwnAt s.heap C bm) (hD : ∃ bm', OwnAt s.heap D bm') (hg : Gl X x) (hm : X.mg x = some (.ref D))
  (k : if (Value.ref C :: bm).contains (.ref D) = true then Suite X e name body pos Q E s else wpAny (model X.prog X.w) X.A (handleBy (.ref e) X.env rest) Q E s) (hd : (x == ("__debug__" : Str)) = false := by decide) :
  wpAny (model X.prog X.w) X.A (handleBy (.ref e) X.env (.ExceptHandler (some (.Name x np)) name body pos :: rest)) Q E s := by
 obtain ⟨ob, hob, hcls⟩ := c.fly.there
 refine wpAny_handleBy_cons (codeAny_handlers_test (ld_glob (X := X.mark (.ref e)) (c.inv.mark _) hg hm ?_ hd)) (by intro q; cases q)
 obtain ⟨nm, q, N, bs, hdct, sn, sub, ab, col, dd, k0, k1, k2, k3, k5, newId, hC', _⟩ := hC
 obtain ⟨bm', nm', q', N', bs', hdct', sn', sub', ab', col', dd', k0', k1', k2', k3', k5', newId', hD', hb'⟩ := hD
 obtain ⟨h, g, d, tk, os⟩ := s
 refine excMatches_own hC' hob hcls hD' hb' ?_
 cases hb : (Value.ref C :: bm).contains (.ref D) with
 | true => rw [hb] at k; exact k
 | false => rw [hb] at k; exact k
theorem suite_none {ts : TS} {D : Ends} {b₀ : Stmt} {tl : List Stmt} (c : Cau X pins σ H' e t C B s) (hs : ∀ ev, PSs (X.mark ev) (b₀ :: tl) ts) (h : ts D σ H') : Suite X e none (b₀ :: tl) pos (SP X pins D) E s := by
 have ok := c.inv.ok
 refine codeAny_handlers_suite (lands_againW c.fly fun h6 fl6 up6 => ?_)
 have c6 := Cau.slots (tk := s.toks) c fl6 up6
 exact wpAny_mono (hs (.ref e) pins _ σ H' D (c6.inv.mark _) h) (fun f s2 q => SP.unmark ok q) fun _ _ z => False.elim z
end
end L2
namespace L2
open PySem PySem.Spec PyProof.Rows
noncomputable abbrev NmD := Str × Pos × Addr
section
variable {X : Cx} {pins : List (Addr × Obj)} {σ : L2.St} {H' : Hp} {e t C : Addr} {B : Heap} {s : Shared} {bm : List Value} {pos : Pos} {name : Option Str} {body : List Stmt} {rest : List ExceptHandler} {Q : Flow → Shared → Prop} {E : Value → Shared → Prop}
noncomputable def nmE (n : NmD) : Expr := .Name n.1 n.2.1
structure NmOk (X : Cx) (n : NmD) : Prop where
 g : Gl X n.1
 m : X.mg n.1 = some (.ref n.2.2)
 d : (n.1 == ("__debug__" : Str)) = false
theorem names_spliced {ev : Value} {p : Pos} {R : List Value → Shared → Prop} {E' : Value → Shared → Prop} (I : Inv (X.mark ev) pins σ H' s) : ∀ (ns : List NmD) (R : List Value → Shared → Prop), (∀ n ∈ ns, NmOk X n) → R (ns.map fun n => .ref n.2.2) s →
  wpAny (model X.prog X.w) (X.A.mark (some ev)) (spliced (backTo p (starEach (ns.map nmE) X.env))) R E' s
 | [], R, _, h => Calls.spliced_nil h
 | n :: ns, R, ok, h => by
  have o := ok n (.head _)
  have hs : starEach ((n :: ns).map nmE) X.env = (false, eval (nmE n) X.env) :: starEach (ns.map nmE) X.env := rfl
  rw [hs]
  show wpAny _ _ (spliced ((false, eval (nmE n) X.env) :: backTo p (starEach (ns.map nmE) X.env))) _ _ s
  refine Calls.spliced_cons (ld_glob (X := X.mark ev) I o.g o.m ?_ o.d)
  exact names_spliced (R := R) I ns (fun us s1 => R (.ref n.2.2 :: us) s1) (fun n' h' => ok n' (.tail _ h')) h
theorem OwnAt.keeps {h h' : Heap} {C : Addr} {bm : List Value} (o : OwnAt h C bm) (k : ∀ b o, h.get? b = some o → h'.get? b = some o) : OwnAt h' C bm := by
 obtain ⟨nm, q, N, bs, hdct, sn, sub, ab, col, dd, k0, k1, k2, k3, k5, newId, hC, hb⟩ := o
 exact ⟨nm, q, N, bs, hdct, sn, sub, ab, col, dd, k0, k1, k2, k3, k5, newId, k _ _ hC, hb⟩
theorem hand_tup {x1} {tp : Pos} (ns : List NmD) (hl : ns.length ≤ 1000) (c : Cau X pins σ H' e t C B s) (hC : OwnAt s.heap C bm) (hD : ∀ n ∈ ns, ∃ bm', OwnAt s.heap n.2.2 bm') (hn : ∀ n ∈ ns, NmOk X n)
  (k : ∀ s', (∀ b o, s.heap.get? b = some o → s'.heap.get? b = some o) → Cau X pins σ H' e t C B s' → if (ns.any fun n => (Value.ref C :: bm).contains (.ref n.2.2)) = true then Suite X e name body pos Q E s' else wpAny (model X.prog X.w) X.A (handleBy (.ref e) X.env rest) Q E s') :
  wpAny (model X.prog X.w) X.A (handleBy (.ref e) X.env (.ExceptHandler (some (.Tuple (ns.map nmE) x1 tp)) name body pos :: rest)) Q E s := by
 refine wpAny_handleBy_cons (codeAny_handlers_test ?_) (by intro q; cases q)
 refine wpAny_Tuple_spliced (names_spliced (X := X) (R := fun _ _ => True) (c.inv.mark _) ns _ hn ⟨by rw [List.length_map]; exact Nat.le_of_lt (small1000 hl), ?_⟩)
 have kp : ∀ b o, s.heap.get? b = some o → (s.heap.push { cls := .type "tuple", dict := none, data := .seq (ns.map fun n => Value.ref n.2.2).toArray }).get? b = some o := fun b o q => Heap.get?_push_of_some _ q
 have c2 := Cau.kept (tk := s.toks) c kp
 have kk := k _ kp c2
 obtain ⟨ob, hob, hcls⟩ := c2.fly.there
 have ht : IsTup (s.heap.push { cls := .type "tuple", dict := none, data := .seq (ns.map fun n => Value.ref n.2.2).toArray }) s.heap.objs.size ((ns.map fun n => n.2.2).map Value.ref).toArray := by
  rw [List.map_map]
  exact ⟨_, Heap.get?_push_size _ rfl, rfl, _, rfl⟩
 refine excMatches_tup (Ds := ns.map fun n => n.2.2) (hC.keeps kp) hob hcls ht (fun D hm => ?_) ?_
 ·obtain ⟨n, h1, rfl⟩ := List.mem_map.mp hm
  obtain ⟨bm', h2⟩ := hD n h1
  exact ⟨bm', h2.keeps kp⟩
 ·have e1 : ((ns.map fun n => n.2.2).any fun D => (Value.ref C :: bm).contains (.ref D)) = (ns.any fun n => (Value.ref C :: bm).contains (.ref n.2.2)) := by rw [List.any_map]; rfl
  rw [e1]
  cases hb : (ns.any fun n => (Value.ref C :: bm).contains (.ref n.2.2)) with
  | true => rw [hb] at kk; exact kk
  | false => rw [hb] at kk; exact kk
end
end L2
namespace L2
open PySem PySem.Spec PyProof.Rows
section
variable {X : Cx} {pins : List (Addr × Obj)} {σ : L2.St} {H : Hp} {s : Shared}
theorem Inv.track {a : Addr} {φ : Heap → Prop} (I : Inv X pins σ H s) (hn : H a = none) (ha : ∃ o, s.heap.get? a = some o) (h0 : X.s₀.heap.get? a = none) (hL : a ≠ X.env.locals) (hc : ∀ x c, X.env.cells.lookup x = some c → c ≠ a) (hp : ∀ p ∈ X.pn ++ pins, p.1 ≠ a)
  (hφ : φ s.heap) (st : ∀ h1 h2 : Heap, φ h1 → (∀ o, h1.get? a = some o → h2.get? a = some o) → φ h2) : Inv X pins σ (upd H a (.ext φ)) s := by
 have U := I.base
 have ne : ∀ b o, H b = some o → b ≠ a := fun b o q z => by rw [z, hn] at q; cases q
 have keepH : ∀ b o, H b = some o → upd H a (.ext φ) b = some o := fun b o q => by rw [upd_ne (ne b o q)]; exact q
 refine ⟨I.ok, I.os, I.bare, ⟨U.keep, U.slot, fun b o q n hx => ?_, U.there, fun b xs q => keepH b _ (U.tups b xs q), fun b o u q => keepH b _ (U.frzs b o u q), fun b ps q => ?_⟩, I.loc, I.cell, ?_, fun x c q => ?_, fun p h => ?_, fun b o q => ?_, I.len⟩
 ·have z : b ≠ a := fun z => by rw [z, h0] at q; cases q
  rw [upd_ne z]; exact U.free b o q n hx
 ·obtain ⟨m, e1⟩ := U.tbls b ps q
  exact ⟨m, keepH b _ e1⟩
 ·rw [upd_ne hL.symm]; exact I.free
 ·rw [upd_ne (hc x c q)]; exact I.freeC x c q
 ·obtain ⟨e1, e2, e3⟩ := I.pin p h
  exact ⟨e1, by rw [upd_ne (hp p h)]; exact e2, e3⟩
 ·by_cases z : b = a
  ·subst z
   rw [upd_same] at q
   cases q
   exact ⟨hφ, ha, st⟩
  ·rw [upd_ne z] at q
   exact (I.hok b o q).stay (fun c v _ r => r) (fun _ r => keepH _ _ r) fun _ _ r => keepH _ _ r
theorem unbind_ok {M : Model} {A : Around} {E : Value → Shared → Prop} {i : Nat} {x : Str} {v : V} {Q : Unit → Shared → Prop} (I : Inv X pins σ H s) (hN : X.N.Nodup) (hi : X.N[i]? = some x) (hk : X.env.scope.names.lookup x = some .local) (hv : σ[i]? = some (some v))
  (h : ∀ s', Inv X pins (σ.set i none) H s' → Q () s') : wpAny M A (unbindName X.env x) Q E s := by
 obtain ⟨m, hn, hl⟩ := id I.loc
 have hcls : (X.env.scope.kind == .class || (X.env.scope.kind == .module && X.env.locals != X.env.globals)) = false := by rw [I.ok.kind]; rfl
 have hiσ : i < σ.length := by rw [I.len]; exact (List.getElem?_eq_some_iff.mp hi).1
 have cne := I.cne
 obtain ⟨u, _, q⟩ := hl i x v hi hv (.inl hk)
 have hm : m x = some u := by
  rcases q with ⟨_, e⟩ | ⟨k, _⟩
  ·exact e
  ·have hk' : X.env.kindOf x = some .local := hk
   rw [hk'] at k
   rcases k with k | k <;> cases k
 refine wpAny_unbindName_local hk hn hm hcls fun h' u' hn' hs => ?_
 have tracked : HOk X.prog X.w H h' := fun b ob e => by
  refine (I.hok b ob e).stay (fun c w' hc q => (hs.2 c ?_).trans q) (fun _ q => q) fun _ _ q => q
  rintro rfl
  have hfree := I.free
  rcases hc with rfl | hc
  ·rw [hfree] at e; cases e
  ·rw [hfree] at hc; cases hc
 have far : ∀ b o, X.s₀.heap.get? b = some o → b ≠ X.env.locals := fun b o e => Nat.ne_of_lt (Nat.lt_of_lt_of_le (Heap.lt_size e) I.ok.above)
 refine h _ ⟨I.ok, I.os, I.bare, ⟨fun b o e n hb hx => ?_, fun b o e n hb hx => ?_, I.base.free, fun b o e hx => ?_, I.base.tups, I.base.frzs, I.base.tbls⟩, ⟨_, hn', fun j y v' e1 e2 e3 => ?_⟩, fun y c e => ?_, I.free, I.freeC, fun p hp => ?_, tracked, by simpa using I.len⟩
 ·exact (hs.2 b (far b o e)).trans (I.base.keep b o e n hb hx)
 ·obtain ⟨sl, e1⟩ := I.base.slot b o e n hb hx
  exact ⟨sl, (hs.2 b (far b o e)).trans e1⟩
 ·obtain ⟨o', e1⟩ := I.base.there b o e hx
  exact ⟨o', (hs.2 b (far b o e)).trans e1⟩
 ·by_cases hj : j = i
  ·subst hj
   rw [List.getElem?_set_self hiσ] at e2
   cases e2
  ·rw [List.getElem?_set_ne (Ne.symm hj)] at e2
   obtain ⟨w', r', q'⟩ := hl j y v' e1 e2 e3
   refine ⟨w', r', ?_⟩
   rcases q' with ⟨k, e⟩ | ⟨k, c, e, z⟩
   ·have : y ≠ x := fun e => hj (nodup_ix hN e1 (e ▸ hi))
    exact .inl ⟨k, by simp [this, e]⟩
   ·exact .inr ⟨k, c, e, z.sameBut hs (cne y c e)⟩
 ·obtain ⟨w', z⟩ := I.cell y c e
  exact ⟨w', z.sameBut hs (cne y c e)⟩
 ·obtain ⟨e, n, ne, nf, d⟩ := I.pin p hp
  exact ⟨(hs.2 p.1 ne).trans e, n, ne, nf, d⟩
end
end L2
namespace L2
open PySem PySem.Spec PyProof.Rows
noncomputable def ExcCls (e C : Addr) (h : Heap) : Prop := ∃ o, h.get? e = some o ∧ o.cls = .ref C
section
variable {X : Cx} {pins : List (Addr × Obj)} {σ : L2.St} {H' : Hp} {e t C : Addr} {B : Heap} {s : Shared} {pos : Pos} {E : Value → Shared → Prop}
theorem Cau.tracked (φ : Heap → Prop) (hφ : ∀ h, ExcCls e C h → φ h) (st : ∀ h1 h2 : Heap, φ h1 → (∀ o, h1.get? e = some o → h2.get? e = some o) → φ h2) (hs : X.stack = X.env :: X.outer) (hf : X.env.frame = some X.env.locals) (hex : X.ex = []) (c : Cau X pins σ H' e t C B s) : Inv X pins σ (upd H' e (.ext φ)) s := by
 have I := c.inv
 obtain ⟨H0, s0, I0, hos, U, cov⟩ := c.org
 have hBe : B.get? e = none := c.fly.2.1
 obtain ⟨oe, vs, T, oT, ts, he, ⟨hcls, _⟩, hd, _⟩ := c.fly.2.2.2
 have nf : e ∉ frs X.stack := fun hb => by
  obtain ⟨_, o, ho, hnr⟩ := c.fly.2.2.1.mem hb
  rw [he] at ho
  cases ho
  exact hnr vs hd
 have nB : ∀ b o, s0.heap.get? b = some o → b ∉ frs X.stack → b ≠ e := fun b o q nb z => by
  obtain ⟨o', h1⟩ := cov b o q nb
  rw [z, hBe] at h1
  cases h1
 have hLf : X.env.locals ∈ frs X.stack := by
  rw [hs]
  exact List.mem_filterMap.mpr ⟨X.env, .head _, hf⟩
 refine I.track ?_ ⟨oe, he⟩ ?_ (fun z => nf (z ▸ hLf)) (fun x cc q z => ?_) (fun p hp z => ?_) (hφ _ ⟨oe, he, hcls⟩) st
 ·cases q : H' e with
  | none => rfl
  | some o =>
   obtain ⟨o', h1⟩ := c.cov e o q
   rw [hBe] at h1
   cases h1
 ·cases q : X.s₀.heap.get? e with
  | none => rfl
  | some o =>
   obtain ⟨o', h1⟩ := I0.base.there e o q (by rw [hex]; exact fun z => nomatch z)
   exact absurd rfl (nB e o' h1 nf)
 ·obtain ⟨v, o, h1, h2⟩ := I.cell x cc q
  rw [z, he] at h1
  cases h1
  rw [hd] at h2
  cases h2
 ·obtain ⟨h1, _, h3, h4, _⟩ := I0.pin p hp
  refine nB p.1 p.2 h1 (fun hb => ?_) z
  rw [hs] at hb
  rcases List.mem_filterMap.mp hb with ⟨env, hm, hfe⟩
  rcases List.mem_cons.mp hm with rfl | hm
  ·rw [hf] at hfe
   exact h3 (Option.some.inj hfe).symm
  ·exact h4 (List.mem_filterMap.mpr ⟨env, hm, hfe⟩)
noncomputable def Ends.less (i : Nat) (D : Ends) : Ends := { D with nx := fun σ H => D.nx (σ.set i none) H, bk := fun σ H => D.bk (σ.set i none) H, ct := fun σ H => D.ct (σ.set i none) H }
theorem less_ok {i : Nat} {n : Str} {D : Ends} {f : Flow} {s2 : Shared} (hN : X.N.Nodup) (hi : X.N[i]? = some n) (hk : X.env.scope.names.lookup n = some .local) (h : SP X pins (D.less i) f s2) :
  wpAny (model X.prog X.w) X.A (do bindName X.env n .none; unbindBehindTheSuite X.env n pos) (fun _ s₃ => SP X pins D f s₃) E s2 := by
 have go : ∀ {σ' : L2.St} {H2 : Hp} (R : L2.St → Prop), Inv X pins σ' H2 s2 → (∀ s3, Inv X pins (σ'.set i none) H2 s3 → SP X pins D f s3) → wpAny (model X.prog X.w) X.A (do bindName X.env n .none; unbindBehindTheSuite X.env n pos) (fun _ s₃ => SP X pins D f s₃) E s2 := fun {σ' H2} R I k => by
  refine wpAny_bind (wpAny_bindName (store_ok (v := .non) I hN hi (.inl hk) rfl (fun s3 I3 => ?_) (.inr hk)))
  refine wpAny_onRaise (unbind_ok (v := .non) I3 hN hi hk ?_ fun s4 I4 => ?_)
  ·rw [List.getElem?_set_self (by rw [I.len]; exact (List.getElem?_eq_some_iff.mp hi).1)]
  ·rw [List.set_set] at I4
   exact k s4 I4
 cases f with
 | next => obtain ⟨σ', H2, I, q⟩ := h; exact go (fun _ => True) I fun s3 I3 => ⟨_, _, I3, q⟩
 | brk => obtain ⟨σ', H2, I, q⟩ := h; exact go (fun _ => True) I fun s3 I3 => ⟨_, _, I3, q⟩
 | cont => obtain ⟨σ', H2, I, q⟩ := h; exact go (fun _ => True) I fun s3 I3 => ⟨_, _, I3, q⟩
 | ret u => obtain ⟨v, σ', H2, I, r, q⟩ := h; exact go (fun _ => True) I fun s3 I3 => ⟨v, _, _, I3, r, q⟩
theorem suite_as {φ : Heap → Prop} {i : Nat} {n : Str} {ts : TS} {D : Ends} {b₀ : Stmt} {tl : List Stmt} (hs : X.stack = X.env :: X.outer) (hf : X.env.frame = some X.env.locals) (hex : X.ex = []) (hN : X.N.Nodup) (hi : X.N[i]? = some n) (hk : X.env.scope.names.lookup n = some .local)
  (c : Cau X pins σ H' e t C B s) (hφ : ∀ h, ExcCls e C h → φ h) (st : ∀ h1 h2 : Heap, φ h1 → (∀ o, h1.get? e = some o → h2.get? e = some o) → φ h2) (hp : ∀ ev, PSs (X.mark ev) (b₀ :: tl) ts) (h : ts (D.less i) (σ.set i (some (.ref e))) (upd H' e (.ext φ))) : Suite X e (some n) (b₀ :: tl) pos (SP X pins D) E s := by
 have ok := c.inv.ok
 refine codeAny_handlers_suite_as (lands_againW c.fly fun h6 fl6 up6 => ?_)
 have c6 := Cau.slots (tk := s.toks) c fl6 up6
 have I6 := c6.tracked φ hφ st hs hf hex
 refine store_ok (v := .ref e) I6 hN hi (.inl hk) rfl (fun s3 I3 => ?_) (.inr hk)
 exact wpAny_mono (hp (.ref e) pins s3 _ _ (D.less i) (I3.mark _) h) (fun f s2 q => less_ok hN hi hk (SP.unmark ok q)) fun _ _ z => False.elim z
end
end L2
namespace L2
open PySem PySem.Spec PyProof.Rows
structure Hel (X : Cx) (pins : List (Addr × Obj)) (σ : L2.St) (H' : Hp) (e t C : Addr) (B : Heap) (s : Shared) : Prop where
 org : ∃ H0 s0, Inv X pins σ H0 s0 ∧ s.os = s0.os ∧ Un (frs X.stack) [] H0 H' s0.heap s.heap ∧ ∀ b o, s0.heap.get? b = some o → b ∉ frs X.stack → ∃ o', B.get? b = some o'
 bare : AllBare s.gens
 hok : HOk X.prog X.w H' s.heap
 held : Heap.HeldW B X.stack e (.ref C) (.ref t) X.env.locals s.heap
 cov : ∀ b o, H' b = some o → ∃ o', B.get? b = some o'
section
variable {X : Cx} {pins : List (Addr × Obj)} {σ : L2.St} {H H' : Hp} {e t C : Addr} {B : Heap} {s s3 : Shared} {ev : Value} {E : Value → Shared → Prop}
end
theorem hel_xe {P : Program} {w : World} {K : PySem.W.Frag} {mg : Str → Option Value} {base : Heap} {N : List Str} {qual : Str} {scope : Scope} {f : Addr} {cd : Value} {A : Around} {outer : List Env} {s : Shared} {H : Hp} {E : XK}
  {pins : List (Addr × Obj)} {σ : L2.St} {H' : Hp} {s3 : Shared} {e t C : Addr} {B : Heap}
  (c : Hel (cxOf (CX1 P w) P w K mg base N qual scope f cd A outer s H E) pins σ H' e t C B s3) (hE : E (.ref C) none H') :
  (cxOf (CX1 P w) P w K mg base N qual scope f cd A outer s H E).xe (.ref e) s3 := by
 obtain ⟨H2, s2, I, hos, U2, cov⟩ := c.org
 have hh : Heap.HeldW B (envOfC qual scope s.heap.objs.size f cd :: outer) e (.ref C) (.ref t) s.heap.objs.size s3.heap := c.held
 have covT := c.cov
 have hok := c.hok
 show wpAny _ _ (leaving _ (.ref e)) _ _ _
 unfold leaving
 refine wpAny_bind (wpAny_noteFrame_againW rfl hh.2.2.2 ?_)
 refine wpAny_landsW hh fun h'' fl up => ?_
 have U := I.base
 have nl : ∀ b o, s.heap.get? b = some o → b ∉ frs outer → b ∉ frs (envOfC qual scope s.heap.objs.size f cd :: outer) := fun b o q nb hb => by
  rcases List.mem_cons.mp (show b ∈ s.heap.objs.size :: frs outer from hb) with z | z
  ·exact absurd (Heap.lt_size q) (by rw [z]; exact Nat.lt_irrefl _)
  ·exact nb z
 have same : ∀ b o o', s3.heap.get? b = some o → B.get? b = some o' → h''.get? b = some o := fun b o o' q1 q2 => by
  have := hh.1 b o' q2
  rw [q1] at this
  cases this
  exact fl.1 b o q2
 have slot : ∀ b o, s3.heap.get? b = some o → b ∈ frs (envOfC qual scope s.heap.objs.size f cd :: outer) → ∃ sl, h''.get? b = some { o with slots := sl } := fun b o q hb => by
  obtain ⟨_, o', ho', hnr⟩ := hh.2.2.1.mem hb
  rw [q] at ho'
  cases ho'
  exact up b o q hnr
 obtain ⟨k1, k2, ⟨_, _, k3⟩, k4⟩ := fl
 refine ⟨e, t, C, H', B, rfl, hos.trans I.os, c.bare, ⟨fun b o q n nb _ => ?_, fun b o q n hb _ => ?_, fun b o q n _ => ?_, fun b o q _ => ?_, fun b xs q => U2.tups b xs (U.tups b xs q), fun b o u q => U2.frzs b o u (U.frzs b o u q), fun b ps q => ?_⟩, fun a o q => ?_, hE, ⟨k1, k2, k3, k4⟩, fun b o q nb => ?_, covT⟩
 ·have q1 := U.keep b o q n nb (fun z => nomatch z)
  have n1 := U.free b o q n (fun z => nomatch z)
  have nl1 := nl b o q nb
  obtain ⟨o', hB⟩ := cov b o q1 nl1
  exact same b o o' (U2.keep b o q1 n1 nl1 (fun z => nomatch z)) hB
 ·obtain ⟨sl, e1⟩ := U.slot b o q n hb (fun z => nomatch z)
  have n1 := U.free b o q n (fun z => nomatch z)
  obtain ⟨sl2, e2⟩ := U2.slot b _ e1 n1 (List.mem_cons_of_mem _ hb) (fun z => nomatch z)
  obtain ⟨sl3, e3⟩ := slot b _ e2 (List.mem_cons_of_mem _ hb)
  exact ⟨sl3, e3⟩
 ·have n1 := U.free b o q n (fun z => nomatch z)
  obtain ⟨o1, e1⟩ := U.there b o q (fun z => nomatch z)
  exact U2.free b o1 e1 n1 (fun z => nomatch z)
 ·obtain ⟨o1, e1⟩ := U.there b o q (fun z => nomatch z)
  obtain ⟨o2, e2⟩ := U2.there b o1 e1 (fun z => nomatch z)
  by_cases hb : b ∈ frs (envOfC qual scope s.heap.objs.size f cd :: outer)
  ·obtain ⟨sl, e3⟩ := slot b o2 e2 hb
   exact ⟨_, e3⟩
  ·obtain ⟨o', hB⟩ := cov b o1 e1 hb
   exact ⟨o2, same b o2 o' e2 hB⟩
 ·obtain ⟨m1, e1⟩ := U.tbls b ps q
  obtain ⟨m2, e2⟩ := U2.tbls b _ e1
  exact ⟨m1 ++ m2, by rw [e2, Array.append_assoc]⟩
 ·refine (hok a o q).stay (fun c v hc r => ?_) (fun _ r => r) fun _ _ r => r
  have hT : ∃ o1, H' c = some o1 := by
   rcases hc with rfl | hc
   ·exact ⟨_, q⟩
   ·exact ⟨_, hc⟩
  obtain ⟨o1, h1⟩ := hT
  obtain ⟨o', hB⟩ := covT c o1 h1
  exact same c v o' r hB
 ·obtain ⟨o1, e1⟩ := U.there b o q (fun z => nomatch z)
  exact cov b o1 e1 (nl b o q nb)
end L2
namespace Fw
open PySem
noncomputable abbrev Key := Sum Int Str
inductive T where
 | non | bl (b : Bool) | int (i : Int) | str (x : Str)
 | lst (ts : List T) | tup (ts : List T) | dct (kts : List (Key × T)) | exc (c : Str) (t : Option Str)
inductive SV where
 | val (t : T) | cel (k : Nat) | box (xs : List (Sum T Nat))
noncomputable abbrev Store := List (Bool × T)
noncomputable abbrev Slots := List (Option SV)
inductive R (α : Type) where
 | ok (a : α) (μ : Store) | err (c : T) (μ : Store) | bad
noncomputable def R.bind {α β : Type} (x : R α) (f : α → Store → R β) : R β := match x with
 | .ok a μ => f a μ
 | .err c μ => .err c μ
 | .bad => .bad
@[simp] theorem R.bind_ok {α β : Type} (a : α) (μ : Store) (f : α → Store → R β) : (R.ok a μ).bind f = f a μ := (rfl)
noncomputable def R.lift {α : Type} (o : Option α) (μ : Store) : R α := match o with
 | some a => .ok a μ
 | none => .bad
@[simp] theorem R.lift_some {α : Type} (a : α) (μ : Store) : R.lift (some a) μ = .ok a μ := (rfl)
theorem R.bind_eq_ok {α β : Type} {x : R α} {f : α → Store → R β} {b : β} {μ : Store} (h : x.bind f = .ok b μ) : ∃ a μ1, x = .ok a μ1 ∧ f a μ1 = .ok b μ := by
 cases x with
 | ok a μ1 => exact ⟨a, μ1, rfl, h⟩
 | err c μ1 => cases h
 | bad => cases h
theorem R.lift_eq_ok {α : Type} {o : Option α} {μ μ' : Store} {a : α} (h : R.lift o μ = .ok a μ') : o = some a ∧ μ = μ' := by
 cases o with
 | none => cases h
 | some x => cases h; exact ⟨rfl, rfl⟩
noncomputable def R.calm {α : Type} : R α → R α
 | .ok a μ => .ok a μ
 | _ => .bad
@[simp] theorem R.calm_ok {α : Type} (a : α) (μ : Store) : (R.ok a μ).calm = .ok a μ := (rfl)
theorem R.calm_eq {α : Type} {r : R α} {a : α} {μ : Store} (h : r.calm = .ok a μ) : r = .ok a μ := by
 cases r with
 | ok b ν => exact h
 | err c ν => cases h
 | bad => cases h
noncomputable abbrev D := Slots → Store → R SV
noncomputable def szL : Nat := 16777216
noncomputable def rd (μ : Store) : SV → Option T
 | .val t => some t
 | .cel k => (μ[k]?).map (·.2)
 | .box _ => none
@[simp] theorem rd_val (μ : Store) (t : T) : rd μ (.val t) = some t := (rfl)
noncomputable def frz1 (x : Sum T Nat) (μ : Store) : R T := match x with
 | .inl t => .ok t μ
 | .inr k => match μ[k]? with
  | some (_, t) => .ok t (μ.set k (false, t))
  | none => .bad
noncomputable def frz1s : List (Sum T Nat) → Store → R (List T)
 | [], μ => .ok [] μ
 | x :: xs, μ => (frz1 x μ).bind fun t μ1 => (frz1s xs μ1).bind fun ts μ2 => .ok (t :: ts) μ2
noncomputable def frz (sv : SV) (μ : Store) : R T := match sv with
 | .val t => .ok t μ
 | .cel k => match μ[k]? with
  | some (_, t) => .ok t (μ.set k (false, t))
  | none => .bad
 | .box xs => (frz1s xs μ).bind fun ts μ1 => .ok (.tup ts) μ1
@[simp] theorem frz_val (μ : Store) (t : T) : frz (.val t) μ = .ok t μ := (rfl)
noncomputable def frzs : List SV → Store → R (List T)
 | [], μ => .ok [] μ
 | x :: xs, μ => (frz x μ).bind fun t μ1 => (frzs xs μ1).bind fun ts μ2 => .ok (t :: ts) μ2
@[simp] theorem frzs_nil (μ : Store) : frzs [] μ = .ok [] μ := (rfl)
@[simp] theorem frzs_cons (x : SV) (xs : List SV) (μ : Store) : frzs (x :: xs) μ = (frz x μ).bind fun t μ1 => (frzs xs μ1).bind fun ts μ2 => .ok (t :: ts) μ2 := (rfl)
theorem frz1_no (x : Sum T Nat) (μ : Store) (c : T) (μ' : Store) : frz1 x μ ≠ .err c μ' := by
 cases x with
 | inl t => intro h; cases h
 | inr k =>
  unfold frz1
  cases q : μ[k]? with
  | none => simp [q]
  | some p => simp [q]
theorem frz1s_no : ∀ (xs : List (Sum T Nat)) (μ : Store) (c : T) (μ' : Store), frz1s xs μ ≠ .err c μ'
 | [], μ, c, μ' => by intro h; cases h
 | x :: xs, μ, c, μ' => by
  unfold frz1s
  cases q : frz1 x μ with
  | err d μ1 => exact absurd q (frz1_no x μ d μ1)
  | bad => intro h; cases h
  | ok t μ1 =>
   rw [R.bind_ok]
   cases q2 : frz1s xs μ1 with
   | err d μ2 => exact absurd q2 (frz1s_no xs μ1 d μ2)
   | bad => intro h; cases h
   | ok ts μ2 => intro h; cases h
theorem frz_no (x : SV) (μ : Store) (c : T) (μ' : Store) : frz x μ ≠ .err c μ' := by
 cases x with
 | val t => intro h; cases h
 | cel k =>
  unfold frz
  cases q : μ[k]? with
  | none => simp [q]
  | some p => simp [q]
 | box xs =>
  show (frz1s xs μ).bind _ ≠ _
  cases q : frz1s xs μ with
  | err d μ1 => exact absurd q (frz1s_no xs μ d μ1)
  | bad => intro h; cases h
  | ok t μ1 => intro h; cases h
theorem frzs_no : ∀ (xs : List SV) (μ : Store) (c : T) (μ' : Store), frzs xs μ ≠ .err c μ'
 | [], μ, c, μ' => by intro h; cases h
 | x :: xs, μ, c, μ' => by
  rw [frzs_cons]
  cases q : frz x μ with
  | err d μ1 => exact absurd q (frz_no x μ d μ1)
  | bad => intro h; cases h
  | ok t μ1 =>
   rw [R.bind_ok]
   cases q2 : frzs xs μ1 with
   | err d μ2 => exact absurd q2 (frzs_no xs μ1 d μ2)
   | bad => intro h; cases h
   | ok ts μ2 => intro h; cases h
noncomputable def slot (e : Slots) (i : Nat) : Option SV := match e[i]? with
 | some (some sv) => some sv
 | _ => none
@[simp] theorem slot_zero (x : SV) (e : Slots) : slot (some x :: e) 0 = some x := (rfl)
@[simp] theorem slot_none (e : Slots) : slot (none :: e) 0 = none := (rfl)
@[simp] theorem slot_succ (x : Option SV) (e : Slots) (i : Nat) : slot (x :: e) (i + 1) = slot e i := (rfl)
noncomputable def dVar (i : Nat) : D := fun e μ => R.lift (slot e i) μ
@[simp] theorem dVar_is (i : Nat) (e : Slots) (μ : Store) : dVar i e μ = R.lift (slot e i) μ := (rfl)
noncomputable def dC (t : T) : D := fun _ μ => .ok (.val t) μ
@[simp] theorem dC_is (t : T) (e : Slots) (μ : Store) : dC t e μ = .ok (.val t) μ := (rfl)
noncomputable def ap1 (f : T → Option T) : Option T → Option SV
 | some t => (f t).map SV.val
 | none => none
noncomputable def ap2 (f : T → T → Option T) : Option T → Option T → Option SV
 | some t, some u => (f t u).map SV.val
 | _, _ => none
@[simp] theorem ap1_some (f : T → Option T) (t : T) : ap1 f (some t) = (f t).map SV.val := (rfl)
@[simp] theorem ap2_some (f : T → T → Option T) (t u : T) : ap2 f (some t) (some u) = (f t u).map SV.val := (rfl)
theorem ap1_eq {f : T → Option T} {o : Option T} {w : SV} (h : ap1 f o = some w) : ∃ t u, o = some t ∧ f t = some u ∧ w = .val u := by
 cases o with
 | none => cases h
 | some t =>
  obtain ⟨u, h1, rfl⟩ := Option.map_eq_some_iff.mp (show (f t).map SV.val = some w from h)
  exact ⟨t, u, rfl, h1, rfl⟩
theorem ap2_eq {f : T → T → Option T} {o p : Option T} {w : SV} (h : ap2 f o p = some w) : ∃ t u v, o = some t ∧ p = some u ∧ f t u = some v ∧ w = .val v := by
 cases o with
 | none => cases p <;> cases h
 | some t =>
  cases p with
  | none => cases h
  | some u =>
   obtain ⟨v, h1, rfl⟩ := Option.map_eq_some_iff.mp (show (f t u).map SV.val = some w from h)
   exact ⟨t, u, v, rfl, rfl, h1, rfl⟩
noncomputable def dUn (f : T → Option T) (a : D) : D := fun e μ => (a e μ).bind fun x μ1 => R.lift (ap1 f (rd μ1 x)) μ1
@[simp] theorem dUn_is (f : T → Option T) (a : D) (e : Slots) (μ : Store) : dUn f a e μ = (a e μ).bind fun x μ1 => R.lift (ap1 f (rd μ1 x)) μ1 := (rfl)
noncomputable def dBin (f : T → T → Option T) (a b : D) : D := fun e μ => (a e μ).bind fun x μ1 => (b e μ1).bind fun y μ2 => R.lift (ap2 f (rd μ2 x) (rd μ2 y)) μ2
@[simp] theorem dBin_is (f : T → T → Option T) (a b : D) (e : Slots) (μ : Store) : dBin f a b e μ = (a e μ).bind fun x μ1 => (b e μ1).bind fun y μ2 => R.lift (ap2 f (rd μ2 x) (rd μ2 y)) μ2 := (rfl)
noncomputable def asB : SV → Option Bool
 | .val (.bl b) => some b
 | _ => none
@[simp] theorem asB_bl (b : Bool) : asB (.val (.bl b)) = some b := (rfl)
noncomputable def dAnd (a b : D) : D := fun e μ => (a e μ).bind fun x μ1 => (R.lift (asB x) μ1).bind fun k μ1 => if k = true then b e μ1 else .ok (.val (.bl false)) μ1
noncomputable def dOr (a b : D) : D := fun e μ => (a e μ).bind fun x μ1 => (R.lift (asB x) μ1).bind fun k μ1 => if k = true then .ok (.val (.bl true)) μ1 else b e μ1
noncomputable def dNot (a : D) : D := fun e μ => (a e μ).bind fun x μ1 => (R.lift (asB x) μ1).bind fun k μ1 => .ok (.val (.bl (!k))) μ1
noncomputable def dIfx (c a b : D) : D := fun e μ => (c e μ).bind fun x μ1 => (R.lift (asB x) μ1).bind fun k μ1 => if k = true then a e μ1 else b e μ1
@[simp] theorem dAnd_is (a b : D) (e : Slots) (μ : Store) : dAnd a b e μ = (a e μ).bind fun x μ1 => (R.lift (asB x) μ1).bind fun k μ1 => if k = true then b e μ1 else .ok (.val (.bl false)) μ1 := (rfl)
@[simp] theorem dOr_is (a b : D) (e : Slots) (μ : Store) : dOr a b e μ = (a e μ).bind fun x μ1 => (R.lift (asB x) μ1).bind fun k μ1 => if k = true then .ok (.val (.bl true)) μ1 else b e μ1 := (rfl)
@[simp] theorem dNot_is (a : D) (e : Slots) (μ : Store) : dNot a e μ = (a e μ).bind fun x μ1 => (R.lift (asB x) μ1).bind fun k μ1 => .ok (.val (.bl (!k))) μ1 := (rfl)
@[simp] theorem dIfx_is (c a b : D) (e : Slots) (μ : Store) : dIfx c a b e μ = (c e μ).bind fun x μ1 => (R.lift (asB x) μ1).bind fun k μ1 => if k = true then a e μ1 else b e μ1 := (rfl)
noncomputable def dArgs : List D → Slots → Store → R (List SV)
 | [], _, μ => .ok [] μ
 | d :: ds, e, μ => (d e μ).bind fun x μ1 => (dArgs ds e μ1).bind fun xs μ2 => .ok (x :: xs) μ2
@[simp] theorem dArgs_nil (e : Slots) (μ : Store) : dArgs [] e μ = .ok [] μ := (rfl)
@[simp] theorem dArgs_cons (d : D) (ds : List D) (e : Slots) (μ : Store) : dArgs (d :: ds) e μ = (d e μ).bind fun x μ1 => (dArgs ds e μ1).bind fun xs μ2 => .ok (x :: xs) μ2 := (rfl)
noncomputable def dTup (ds : List D) : D := fun e μ => (dArgs ds e μ).bind fun xs μ1 => (frzs xs μ1).bind fun ts μ2 => .ok (.val (.tup ts)) μ2
noncomputable def dLst (ds : List D) : D := fun e μ => (dArgs ds e μ).bind fun xs μ1 => (frzs xs μ1).bind fun ts μ2 => .ok (.val (.lst ts)) μ2
@[simp] theorem dTup_is (ds : List D) (e : Slots) (μ : Store) : dTup ds e μ = (dArgs ds e μ).bind fun xs μ1 => (frzs xs μ1).bind fun ts μ2 => .ok (.val (.tup ts)) μ2 := (rfl)
@[simp] theorem dLst_is (ds : List D) (e : Slots) (μ : Store) : dLst ds e μ = (dArgs ds e μ).bind fun xs μ1 => (frzs xs μ1).bind fun ts μ2 => .ok (.val (.lst ts)) μ2 := (rfl)
noncomputable def dRep (f : T → T → Option T) (ds : List D) (b : D) : D := fun e μ => (dArgs ds e μ).bind fun xs μ1 => (frzs xs μ1).bind fun ts μ2 => (b e μ2).bind fun y μ3 => R.lift (ap1 (f (.lst ts)) (rd μ3 y)) μ3
@[simp] theorem dRep_is (f : T → T → Option T) (ds : List D) (b : D) (e : Slots) (μ : Store) : dRep f ds b e μ = (dArgs ds e μ).bind fun xs μ1 => (frzs xs μ1).bind fun ts μ2 => (b e μ2).bind fun y μ3 => R.lift (ap1 (f (.lst ts)) (rd μ3 y)) μ3 := (rfl)
noncomputable def boxed : List SV → Option (List (Sum T Nat))
 | [] => some []
 | .val t :: xs => (boxed xs).map fun ys => .inl t :: ys
 | .cel k :: xs => (boxed xs).map fun ys => .inr k :: ys
 | .box _ :: _ => none
noncomputable def dBox (ds : List D) : D := fun e μ => (dArgs ds e μ).bind fun xs μ1 => (R.lift (boxed xs) μ1).bind fun ys μ1 => .ok (.box ys) μ1
@[simp] theorem dBox_is (ds : List D) (e : Slots) (μ : Store) : dBox ds e μ = (dArgs ds e μ).bind fun xs μ1 => (R.lift (boxed xs) μ1).bind fun ys μ1 => .ok (.box ys) μ1 := (rfl)
noncomputable def cell (t : T) (μ : Store) : R SV := .ok (.cel μ.length) (μ ++ [(true, t)])
noncomputable def dCell (d : D) : D := fun e μ => (d e μ).bind fun x μ1 => match x with
 | .val t => cell t μ1
 | .cel k => .ok (.cel k) μ1
 | .box xs => .ok (.box xs) μ1
noncomputable def toCell (x : SV) (μ : Store) : R SV := match x with
 | .val t => cell t μ
 | .cel k => .ok (.cel k) μ
 | .box xs => .ok (.box xs) μ
@[simp] theorem toCell_val (t : T) (μ : Store) : toCell (.val t) μ = .ok (.cel μ.length) (μ ++ [(true, t)]) := (rfl)
@[simp] theorem dCell_is (d : D) (e : Slots) (μ : Store) : dCell d e μ = (d e μ).bind toCell := by
 unfold dCell toCell; rfl
noncomputable abbrev FN := List SV → Store → R SV
noncomputable def dCall (f : FN) (ds : List D) : D := fun e μ => (dArgs ds e μ).bind fun xs μ1 => f xs μ1
@[simp] theorem dCall_is (f : FN) (ds : List D) (e : Slots) (μ : Store) : dCall f ds e μ = (dArgs ds e μ).bind fun xs μ1 => f xs μ1 := (rfl)
noncomputable def cal (f : FN) : FN := fun xs μ => (f xs μ).calm
@[simp] theorem cal_is (f : FN) (xs : List SV) (μ : Store) : cal f xs μ = (f xs μ).calm := (rfl)
noncomputable def ixN (n : Nat) (i : Int) : Option Nat := if 0 ≤ i then (if i < n then some i.toNat else none) else if -(n : Int) ≤ i then some (i + n).toNat else none
noncomputable def atI {α : Type} (xs : List α) (i : Int) : Option α := (ixN xs.length i).bind fun j => xs[j]?
noncomputable def sIx (n d : Nat) : Option Int → Nat
 | none => d
 | some v => if v < 0 then (v + (n : Int)).toNat else min v.toNat n
noncomputable def fAdd : T → T → Option T
 | .int i, .int j => some (.int (i + j))
 | .str x, .str y => if x.length + y.length ≤ szL then some (.str (x ++ y)) else none
 | .tup xs, .tup ys => if xs.length + ys.length ≤ szL then some (.tup (xs ++ ys)) else none
 | .lst xs, .lst ys => if xs.length + ys.length ≤ szL then some (.lst (xs ++ ys)) else none
 | _, _ => none
theorem fAdd_lst (xs ys : List T) (h : xs.length + ys.length ≤ szL) : fAdd (.lst xs) (.lst ys) = some (.lst (xs ++ ys)) := if_pos h
@[simp] theorem fAdd_int (i j : Int) : fAdd (.int i) (.int j) = some (.int (i + j)) := (rfl)
noncomputable def fRep : T → T → Option T
 | .lst xs, .int k => if -(2 ^ 63) ≤ k ∧ k < 2 ^ 63 ∧ xs.length * k.toNat ≤ szL then some (.lst (List.replicate k.toNat xs).flatten) else none
 | _, _ => none
noncomputable def fSub : T → T → Option T
 | .int i, .int j => some (.int (i - j))
 | _, _ => none
@[simp] theorem fSub_int (i j : Int) : fSub (.int i) (.int j) = some (.int (i - j)) := (rfl)
noncomputable def fMul : T → T → Option T
 | .int i, .int j => if (-(2 ^ 64) < i ∧ i < 2 ^ 64) ∨ (-(2 ^ 64) < j ∧ j < 2 ^ 64) then some (.int (i * j)) else none
 | _, _ => none
noncomputable def fMulA (t u : T) : Option T := fMul t u
theorem fMul_l (i j : Int) (h1 : -18446744073709551616 < i) (h2 : i < 18446744073709551616) : fMul (.int i) (.int j) = some (.int (i * j)) := if_pos (.inl ⟨h1, h2⟩)
theorem fMul_r (i j : Int) (h1 : -18446744073709551616 < j) (h2 : j < 18446744073709551616) : fMul (.int i) (.int j) = some (.int (i * j)) := if_pos (.inr ⟨h1, h2⟩)
@[simp] theorem fMulA_l (i j : Int) (h1 : -18446744073709551616 < i) (h2 : i < 18446744073709551616) : fMulA (.int i) (.int j) = some (.int (i * j)) := fMul_l i j h1 h2
@[simp] theorem fMulA_r (i j : Int) (h1 : -18446744073709551616 < j) (h2 : j < 18446744073709551616) : fMulA (.int i) (.int j) = some (.int (i * j)) := fMul_r i j h1 h2
noncomputable def fMod : T → T → Option T
 | .int i, .int j => if 0 < j then some (.int (i % j)) else none
 | _, _ => none
@[simp] theorem fMod_int (i j : Int) (h : 0 < j) : fMod (.int i) (.int j) = some (.int (i % j)) := if_pos h
noncomputable def fDiv : T → T → Option T
 | .int i, .int j => if 0 < j ∧ j < 1073741824 then some (.int (i / j)) else none
 | _, _ => none
@[simp] theorem fDiv_int (i j : Int) (h : 0 < j) (h2 : j < 1073741824) : fDiv (.int i) (.int j) = some (.int (i / j)) := if_pos ⟨h, h2⟩
noncomputable def fNeg : T → Option T
 | .int i => some (.int (-i))
 | _ => none
@[simp] theorem fNeg_int (i : Int) : fNeg (.int i) = some (.int (-i)) := (rfl)
noncomputable def fLt : T → T → Option T
 | .int i, .int j => some (.bl (decide (i < j)))
 | _, _ => none
noncomputable def fLe : T → T → Option T
 | .int i, .int j => some (.bl (decide (i ≤ j)))
 | _, _ => none
noncomputable def fGt : T → T → Option T
 | .int i, .int j => some (.bl (decide (j < i)))
 | _, _ => none
noncomputable def fGe : T → T → Option T
 | .int i, .int j => some (.bl (decide (j ≤ i)))
 | _, _ => none
@[simp] theorem fLt_int (i j : Int) : fLt (.int i) (.int j) = some (.bl (decide (i < j))) := (rfl)
@[simp] theorem fLe_int (i j : Int) : fLe (.int i) (.int j) = some (.bl (decide (i ≤ j))) := (rfl)
@[simp] theorem fGt_int (i j : Int) : fGt (.int i) (.int j) = some (.bl (decide (j < i))) := (rfl)
@[simp] theorem fGe_int (i j : Int) : fGe (.int i) (.int j) = some (.bl (decide (j ≤ i))) := (rfl)
mutual
noncomputable def eqT : T → T → Bool
 | .non, .non => true
 | .bl a, .bl b => a == b
 | .bl a, .int b => (if a then 1 else 0) == b
 | .int a, .bl b => a == (if b then 1 else 0)
 | .int a, .int b => a == b
 | .str a, .str b => a == b
 | .lst a, .lst b => eqTs a b
 | .tup a, .tup b => eqTs a b
 | _, _ => false
noncomputable def eqTs : List T → List T → Bool
 | [], [] => true
 | a :: as, b :: bs => eqT a b && eqTs as bs
 | [], _ :: _ => false
 | _ :: _, [] => false
end
mutual
noncomputable def okT : Nat → T → Bool
 | _, .non => true
 | _, .bl _ => true
 | _, .int _ => true
 | _, .str x => x.cps.all (· < 1114112)
 | 0, .lst _ => false
 | n + 1, .lst ts => okTs n ts
 | 0, .tup _ => false
 | n + 1, .tup ts => okTs n ts
 | _, .dct _ => false
 | _, .exc _ _ => false
noncomputable def okTs : Nat → List T → Bool
 | _, [] => true
 | n, t :: ts => okT n t && okTs n ts
end
noncomputable def fEq (t u : T) : Option T := match t, u with
 | .str a, .str b => some (.bl (a == b))
 | t, u => if okT 100 t = true ∧ okT 100 u = true then some (.bl (eqT t u)) else none
noncomputable def fNe (t u : T) : Option T := match t, u with
 | .str a, .str b => some (.bl (!(a == b)))
 | t, u => if okT 100 t = true ∧ okT 100 u = true then some (.bl (!eqT t u)) else none
@[simp] theorem okT_int (n : Nat) (i : Int) : okT n (.int i) = true := by unfold okT; rfl
@[simp] theorem okT_lst (n : Nat) (ts : List T) : okT (n + 1) (.lst ts) = okTs n ts := by rw [okT]
@[simp] theorem okT_tup (n : Nat) (ts : List T) : okT (n + 1) (.tup ts) = okTs n ts := by rw [okT]
@[simp] theorem okTs_nil (n : Nat) : okTs n [] = true := by rw [okTs]
@[simp] theorem okTs_cons (n : Nat) (t : T) (ts : List T) : okTs n (t :: ts) = (okT n t && okTs n ts) := by rw [okTs]
theorem okTs_iff (n : Nat) : ∀ ts : List T, okTs n ts = true ↔ ∀ t ∈ ts, okT n t = true
 | [] => by simp
 | t :: ts => by simp [okTs_iff n ts]
@[simp] theorem okTs_ints (n : Nat) (ns : List Int) : okTs n (ns.map T.int) = true := by
 rw [okTs_iff]
 intro t ht
 obtain ⟨i, _, rfl⟩ := List.mem_map.mp ht
 simp
@[simp] theorem eqT_int (i j : Int) : eqT (.int i) (.int j) = (i == j) := by rw [eqT]
@[simp] theorem eqT_str (i j : Str) : eqT (.str i) (.str j) = (i == j) := by rw [eqT]
@[simp] theorem eqT_bl (i j : Bool) : eqT (.bl i) (.bl j) = (i == j) := by rw [eqT]
@[simp] theorem eqT_non : eqT .non .non = true := by rw [eqT]
@[simp] theorem eqT_lst (i j : List T) : eqT (.lst i) (.lst j) = eqTs i j := by rw [eqT]
@[simp] theorem eqT_tup (i j : List T) : eqT (.tup i) (.tup j) = eqTs i j := by rw [eqT]
@[simp] theorem eqTs_nil : eqTs [] [] = true := by rw [eqTs]
@[simp] theorem eqTs_cons (a b : T) (as bs : List T) : eqTs (a :: as) (b :: bs) = (eqT a b && eqTs as bs) := by rw [eqTs]
@[simp] theorem eqTs_nc (b : T) (bs : List T) : eqTs [] (b :: bs) = false := by rw [eqTs]
@[simp] theorem eqTs_cn (b : T) (bs : List T) : eqTs (b :: bs) [] = false := by rw [eqTs]
mutual
theorem eqT_refl : ∀ (n : Nat) (t : T), okT n t = true → eqT t t = true
 | n, .non, _ => by simp
 | n, .bl b, _ => by simp
 | n, .int i, _ => by simp
 | n, .str x, _ => by simp
 | 0, .lst ts, h => by rw [okT] at h; cases h
 | n + 1, .lst ts, h => by simp only [eqT_lst]; exact eqTs_refl n ts (by simpa using h)
 | 0, .tup ts, h => by rw [okT] at h; cases h
 | n + 1, .tup ts, h => by simp only [eqT_tup]; exact eqTs_refl n ts (by simpa using h)
 | n, .dct _, h => by unfold okT at h; cases h
 | n, .exc _ _, h => by unfold okT at h; cases h
theorem eqTs_refl : ∀ (n : Nat) (ts : List T), okTs n ts = true → eqTs ts ts = true
 | n, [], _ => by simp
 | n, t :: ts, h => by
  simp only [okTs_cons, Bool.and_eq_true] at h
  simp [eqT_refl n t h.1, eqTs_refl n ts h.2]
end
theorem eqTs_ints : ∀ (xs ys : List Int), eqTs (xs.map T.int) (ys.map T.int) = (xs == ys)
 | [], [] => by simp
 | [], y :: ys => by simp
 | x :: xs, [] => by simp
 | x :: xs, y :: ys => by simp [eqTs_ints xs ys]
theorem fEq_ok {t u : T} (h1 : okT 100 t = true) (h2 : okT 100 u = true) : fEq t u = some (.bl (eqT t u)) := by
 unfold fEq
 split
 ·simp
 ·rw [if_pos ⟨h1, h2⟩]
theorem fNe_ok {t u : T} (h1 : okT 100 t = true) (h2 : okT 100 u = true) : fNe t u = some (.bl (!eqT t u)) := by
 unfold fNe
 split
 ·simp
 ·rw [if_pos ⟨h1, h2⟩]
@[simp] theorem fEq_int (i j : Int) : fEq (.int i) (.int j) = some (.bl (i == j)) := by rw [fEq_ok (by simp) (by simp)]; simp
@[simp] theorem fNe_int (i j : Int) : fNe (.int i) (.int j) = some (.bl (!(i == j))) := by rw [fNe_ok (by simp) (by simp)]; simp
@[simp] theorem fEq_str (i j : Str) : fEq (.str i) (.str j) = some (.bl (i == j)) := (rfl)
@[simp] theorem fNe_str (i j : Str) : fNe (.str i) (.str j) = some (.bl (!(i == j))) := (rfl)
@[simp] theorem fEq_ints (xs ys : List Int) : fEq (.lst (xs.map T.int)) (.lst (ys.map T.int)) = some (.bl (xs == ys)) := by rw [fEq_ok (by simp) (by simp)]; simp [eqTs_ints]
@[simp] theorem fNe_ints (xs ys : List Int) : fNe (.lst (xs.map T.int)) (.lst (ys.map T.int)) = some (.bl (!(xs == ys))) := by rw [fNe_ok (by simp) (by simp)]; simp [eqTs_ints]
noncomputable def isNon : T → Option T
 | .non => some (.bl true)
 | _ => some (.bl false)
noncomputable def fIdx : T → T → Option T
 | .lst xs, .int i => atI xs i
 | .tup xs, .int i => atI xs i
 | .str x, .int i => if x.length ≤ szL then (atI x.cps.toList i).map fun c => .str ⟨#[c]⟩ else none
 | _, _ => none
noncomputable def pick : Sum T Nat → SV
 | .inl t => .val t
 | .inr k => .cel k
noncomputable def idxS (μ : Store) (x : SV) (u : T) : Option SV := match x, u with
 | .box xs, .int i => (atI xs i).map pick
 | .box _, _ => none
 | x, u => ap1 (fun t => fIdx t u) (rd μ x)
noncomputable def dIdx (a b : D) : D := fun e μ => (a e μ).bind fun x μ1 => (b e μ1).bind fun y μ2 => R.lift ((rd μ2 y).bind fun u => idxS μ2 x u) μ2
@[simp] theorem dIdx_is (a b : D) (e : Slots) (μ : Store) : dIdx a b e μ = (a e μ).bind fun x μ1 => (b e μ1).bind fun y μ2 => R.lift ((rd μ2 y).bind fun u => idxS μ2 x u) μ2 := (rfl)
@[simp] theorem idxS_lst (μ : Store) (xs : List T) (i : Int) : idxS μ (.val (.lst xs)) (.int i) = (atI xs i).map SV.val := (rfl)
@[simp] theorem idxS_tup (μ : Store) (xs : List T) (i : Int) : idxS μ (.val (.tup xs)) (.int i) = (atI xs i).map SV.val := (rfl)
@[simp] theorem idxS_box (μ : Store) (xs : List (Sum T Nat)) (i : Int) : idxS μ (.box xs) (.int i) = (atI xs i).map pick := (rfl)
@[simp] theorem idxS_cel (μ : Store) (k : Nat) (u : T) : idxS μ (.cel k) u = ap1 (fun t => fIdx t u) (rd μ (.cel k)) := (rfl)
noncomputable def fLen : T → Option T
 | .lst xs => some (.int xs.length)
 | .tup xs => some (.int xs.length)
 | .str x => if x.length ≤ szL then some (.int x.length) else none
 | .dct kts => some (.int kts.length)
 | _ => none
noncomputable def lenS (μ : Store) : SV → Option T
 | .box xs => some (.int xs.length)
 | x => (rd μ x).bind fLen
noncomputable def dLen (a : D) : D := fun e μ => (a e μ).bind fun x μ1 => R.lift ((lenS μ1 x).map SV.val) μ1
@[simp] theorem dLen_is (a : D) (e : Slots) (μ : Store) : dLen a e μ = (a e μ).bind fun x μ1 => R.lift ((lenS μ1 x).map SV.val) μ1 := (rfl)
@[simp] theorem lenS_lst (μ : Store) (xs : List T) : lenS μ (.val (.lst xs)) = some (.int xs.length) := (rfl)
@[simp] theorem lenS_tup (μ : Store) (xs : List T) : lenS μ (.val (.tup xs)) = some (.int xs.length) := (rfl)
@[simp] theorem lenS_cel (μ : Store) (k : Nat) : lenS μ (.cel k) = (rd μ (.cel k)).bind fLen := (rfl)
inductive Kd where
 | int | bool | str | list | tuple | dict
noncomputable def isK : Kd → T → Bool
 | .int, .int _ => true
 | .int, .bl _ => true
 | .bool, .bl _ => true
 | .str, .str _ => true
 | .list, .lst _ => true
 | .tuple, .tup _ => true
 | .dict, .dct _ => true
 | _, _ => false
noncomputable def isT (k : Kd) : T → Option T
 | .exc _ _ => none
 | t => some (.bl (isK k t))
noncomputable def isS (k : Kd) (μ : Store) : SV → Option T
 | .box _ => some (.bl (isK k (.tup [])))
 | x => (rd μ x).bind (isT k)
@[simp] theorem isT_int (k : Kd) (i : Int) : isT k (.int i) = some (.bl (isK k (.int i))) := (rfl)
@[simp] theorem isT_tup (k : Kd) (i : List T) : isT k (.tup i) = some (.bl (isK k (.tup i))) := (rfl)
noncomputable def dIs (k : Kd) (a : D) : D := fun e μ => (a e μ).bind fun x μ1 => R.lift ((isS k μ1 x).map SV.val) μ1
@[simp] theorem dIs_is (k : Kd) (a : D) (e : Slots) (μ : Store) : dIs k a e μ = (a e μ).bind fun x μ1 => R.lift ((isS k μ1 x).map SV.val) μ1 := (rfl)
@[simp] theorem isS_val (k : Kd) (μ : Store) (t : T) : isS k μ (.val t) = isT k t := (rfl)
@[simp] theorem isS_cel (k : Kd) (μ : Store) (j : Nat) : isS k μ (.cel j) = (rd μ (.cel j)).bind (isT k) := (rfl)
noncomputable def fTuple : T → Option T
 | .lst xs => some (.tup xs)
 | .tup xs => some (.tup xs)
 | _ => none
@[simp] theorem fTuple_lst (xs : List T) : fTuple (.lst xs) = some (.tup xs) := (rfl)
@[simp] theorem fTuple_tup (xs : List T) : fTuple (.tup xs) = some (.tup xs) := (rfl)
noncomputable def fList : T → Option T
 | .lst xs => some (.lst xs)
 | .tup xs => some (.lst xs)
 | _ => none
noncomputable def keyT : Key → T
 | .inl i => .int i
 | .inr x => .str x
@[simp] theorem fList_lst (xs : List T) : fList (.lst xs) = some (.lst xs) := (rfl)
noncomputable def cutT {α : Type} (xs : List α) (lo hi : Option Int) : List α := (xs.drop (sIx xs.length 0 lo)).take (sIx xs.length xs.length hi - sIx xs.length 0 lo)
noncomputable def asInt : T → Option Int
 | .int i => some i
 | _ => none
@[simp] theorem asInt_int (i : Int) : asInt (.int i) = some i := (rfl)
noncomputable def asInts : List T → Option (List Int)
 | [] => some []
 | t :: ts => (asInt t).bind fun i => (asInts ts).map fun is => i :: is
theorem asInts_map (ns : List Int) : asInts (ns.map T.int) = some ns := by
 induction ns with
 | nil => rfl
 | cons n ns ih => simp [asInts, ih]
noncomputable def fSum : T → Option T
 | .lst xs => (asInts xs).map fun is => .int is.sum
 | _ => none
@[simp] theorem fSum_ints (ns : List Int) : fSum (.lst (ns.map T.int)) = some (.int ns.sum) := by simp [fSum, asInts_map]
noncomputable def asBls : List T → Option (List Bool)
 | [] => some []
 | .bl b :: ts => (asBls ts).map fun bs => b :: bs
 | _ :: _ => none
theorem asBls_map (bs : List Bool) : asBls (bs.map T.bl) = some bs := by
 induction bs with
 | nil => rfl
 | cons n ns ih => simp [asBls, ih]
noncomputable def fAll : T → Option T
 | .lst xs => (asBls xs).map fun bs => .bl (bs.all id)
 | _ => none
noncomputable def fAny : T → Option T
 | .lst xs => (asBls xs).map fun bs => .bl (bs.any id)
 | _ => none
@[simp] theorem fAll_bls (bs : List Bool) : fAll (.lst (bs.map T.bl)) = some (.bl (bs.all id)) := by simp [fAll, asBls_map]
@[simp] theorem fAny_bls (bs : List Bool) : fAny (.lst (bs.map T.bl)) = some (.bl (bs.any id)) := by simp [fAny, asBls_map]
noncomputable def notNon : T → Option T
 | .non => some (.bl false)
 | _ => some (.bl true)
@[simp] theorem notNon_non : notNon .non = some (.bl false) := (rfl)
@[simp] theorem notNon_int (i : Int) : notNon (.int i) = some (.bl true) := (rfl)
noncomputable def dChain (f g : T → T → Option T) (a b c : D) : D := fun e μ => (a e μ).bind fun x μ1 => (b e μ1).bind fun y μ2 =>
 (R.lift (ap2 f (rd μ2 x) (rd μ2 y)) μ2).bind fun w μ2 => (R.lift (asB w) μ2).bind fun k μ2 =>
 if k = true then (c e μ2).bind fun z μ3 => R.lift (ap2 g (rd μ3 y) (rd μ3 z)) μ3 else .ok (.val (.bl false)) μ2
@[simp] theorem dChain_is (f g : T → T → Option T) (a b c : D) (e : Slots) (μ : Store) : dChain f g a b c e μ = (a e μ).bind fun x μ1 => (b e μ1).bind fun y μ2 =>
 (R.lift (ap2 f (rd μ2 x) (rd μ2 y)) μ2).bind fun w μ2 => (R.lift (asB w) μ2).bind fun k μ2 =>
 if k = true then (c e μ2).bind fun z μ3 => R.lift (ap2 g (rd μ3 y) (rd μ3 z)) μ3 else .ok (.val (.bl false)) μ2 := (rfl)
noncomputable def fCut (t : T) (lo hi : Option Int) : Option T := match t with
 | .lst xs => some (.lst (cutT xs lo hi))
 | .tup xs => if sIx xs.length 0 lo = 0 ∧ sIx xs.length xs.length hi = xs.length then none else some (.tup (cutT xs lo hi))
 | _ => none
noncomputable def dOpt (o : Option D) (e : Slots) (μ : Store) : R (Option Int) := match o with
 | none => .ok none μ
 | some d => (d e μ).bind fun x μ1 => (R.lift ((rd μ1 x).bind asInt) μ1).bind fun i μ1 => .ok (some i) μ1
@[simp] theorem dOpt_none (e : Slots) (μ : Store) : dOpt none e μ = .ok none μ := (rfl)
@[simp] theorem dOpt_some (d : D) (e : Slots) (μ : Store) : dOpt (some d) e μ = (d e μ).bind fun x μ1 => (R.lift ((rd μ1 x).bind asInt) μ1).bind fun i μ1 => .ok (some i) μ1 := (rfl)
noncomputable def dCut (a : D) (lo hi : Option D) : D := fun e μ => (a e μ).bind fun x μ1 => (dOpt lo e μ1).bind fun l μ2 => (dOpt hi e μ2).bind fun h μ3 => R.lift (ap1 (fun t => fCut t l h) (rd μ3 x)) μ3
@[simp] theorem dCut_is (a : D) (lo hi : Option D) (e : Slots) (μ : Store) : dCut a lo hi e μ = (a e μ).bind fun x μ1 => (dOpt lo e μ1).bind fun l μ2 => (dOpt hi e μ2).bind fun h μ3 => R.lift (ap1 (fun t => fCut t l h) (rd μ3 x)) μ3 := (rfl)
inductive RS where
 | nx (e : Slots) (μ : Store) | rt (x : SV) (μ : Store) | bk (e : Slots) (μ : Store) | ct (e : Slots) (μ : Store) | err (c : T) (e : Slots) (μ : Store) | bad
noncomputable abbrev DS := Slots → Store → RS
noncomputable def R.toS {α : Type} (x : R α) (e : Slots) (f : α → Store → RS) : RS := match x with
 | .ok a μ => f a μ
 | .err c μ => .err c e μ
 | .bad => .bad
@[simp] theorem R.toS_ok {α : Type} (a : α) (e : Slots) (μ : Store) (f : α → Store → RS) : (R.ok a μ).toS e f = f a μ := (rfl)
noncomputable def RS.seq (r : RS) (f : Slots → Store → RS) : RS := match r with
 | .nx e μ => f e μ
 | r => r
@[simp] theorem RS.seq_nx (e : Slots) (μ : Store) (f : Slots → Store → RS) : (RS.nx e μ).seq f = f e μ := (rfl)
@[simp] theorem RS.seq_rt (x : SV) (μ : Store) (f : Slots → Store → RS) : (RS.rt x μ).seq f = .rt x μ := (rfl)
noncomputable def sNil : DS := fun e μ => .nx e μ
noncomputable def sSeq (a b : DS) : DS := fun e μ => (a e μ).seq b
noncomputable def sExpr (d : D) : DS := fun e μ => (d e μ).toS e fun _ μ1 => .nx e μ1
noncomputable def sSet (i : Nat) (d : D) : DS := fun e μ => (d e μ).toS e fun x μ1 => .nx (e.set i (some x)) μ1
noncomputable def sRet (d : D) : DS := fun e μ => (d e μ).toS e fun x μ1 => .rt x μ1
noncomputable def sIf (c : D) (a b : DS) : DS := fun e μ => (c e μ).toS e fun x μ1 => (R.lift (asB x) μ1).toS e fun k μ1 => if k = true then a e μ1 else b e μ1
noncomputable def sBad : DS := fun _ _ => .bad
@[simp] theorem sNil_is (e : Slots) (μ : Store) : sNil e μ = .nx e μ := (rfl)
@[simp] theorem sSeq_is (a b : DS) (e : Slots) (μ : Store) : sSeq a b e μ = (a e μ).seq b := (rfl)
@[simp] theorem sExpr_is (d : D) (e : Slots) (μ : Store) : sExpr d e μ = (d e μ).toS e fun _ μ1 => .nx e μ1 := (rfl)
@[simp] theorem sSet_is (i : Nat) (d : D) (e : Slots) (μ : Store) : sSet i d e μ = (d e μ).toS e fun x μ1 => .nx (e.set i (some x)) μ1 := (rfl)
@[simp] theorem sRet_is (d : D) (e : Slots) (μ : Store) : sRet d e μ = (d e μ).toS e fun x μ1 => .rt x μ1 := (rfl)
@[simp] theorem sIf_is (c : D) (a b : DS) (e : Slots) (μ : Store) : sIf c a b e μ = (c e μ).toS e fun x μ1 => (R.lift (asB x) μ1).toS e fun k μ1 => if k = true then a e μ1 else b e μ1 := (rfl)
noncomputable def appendAt (x : SV) (t : T) (μ : Store) : Option Store := match x with
 | .cel k => match μ[k]? with
  | some (true, .lst ts) => if ts.length < szL then some (μ.set k (true, .lst (ts ++ [t]))) else none
  | _ => none
 | _ => none
noncomputable def lsts (x : SV) (μ : Store) : Option Unit := match x with
 | .cel k => match μ[k]? with
  | some (_, .lst _) => some ()
  | _ => none
 | _ => none
theorem lsts_at {μ : Store} {k : Nat} {b : Bool} {ts : List T} (h : μ[k]? = some (b, .lst ts)) : lsts (.cel k) μ = some () := by unfold lsts; simp only [h]
noncomputable def sAppend (o d : D) : DS := fun e μ => (o e μ).toS e fun x μ0 => (R.lift (lsts x μ0) μ0).toS e fun _ μ0 => (d e μ0).toS e fun y μ1 => (frz y μ1).toS e fun t μ2 => (R.lift (appendAt x t μ2) μ2).toS e fun μ3 _ => .nx e μ3
@[simp] theorem sAppend_is (o d : D) (e : Slots) (μ : Store) : sAppend o d e μ = (o e μ).toS e fun x μ0 => (R.lift (lsts x μ0) μ0).toS e fun _ μ0 => (d e μ0).toS e fun y μ1 => (frz y μ1).toS e fun t μ2 => (R.lift (appendAt x t μ2) μ2).toS e fun μ3 _ => .nx e μ3 := (rfl)
noncomputable def setAt (x : SV) (k : T) (t : T) (μ : Store) : Option Store := match x, k with
 | .cel c, .int i => match μ[c]? with
  | some (true, .lst ts) => (ixN ts.length i).map fun j => μ.set c (true, .lst (ts.set j t))
  | _ => none
 | _, _ => none
noncomputable def sSetItem (i : Nat) (dk dv : D) : DS := fun e μ => (dv e μ).toS e fun y μ1 => (R.lift (slot e i) μ1).toS e fun x μ1 => (dk e μ1).toS e fun z μ2 => (R.lift (rd μ2 z) μ2).toS e fun k μ2 =>
 (frz y μ2).toS e fun t μ3 => (R.lift (setAt x k t μ3) μ3).toS e fun μ4 _ => .nx e μ4
@[simp] theorem sSetItem_is (i : Nat) (dk dv : D) (e : Slots) (μ : Store) : sSetItem i dk dv e μ = (dv e μ).toS e fun y μ1 => (R.lift (slot e i) μ1).toS e fun x μ1 => (dk e μ1).toS e fun z μ2 => (R.lift (rd μ2 z) μ2).toS e fun k μ2 =>
 (frz y μ2).toS e fun t μ3 => (R.lift (setAt x k t μ3) μ3).toS e fun μ4 _ => .nx e μ4 := (rfl)
structure Wk where
 items : List T
 same : Store → Prop
noncomputable abbrev DI := Slots → Store → R Wk
noncomputable def seqItems : T → Option (List T)
 | .lst ts => some ts
 | .tup ts => some ts
 | _ => none
@[simp] theorem seqItems_lst (ts : List T) : seqItems (.lst ts) = some ts := (rfl)
@[simp] theorem seqItems_tup (ts : List T) : seqItems (.tup ts) = some ts := (rfl)
noncomputable def iSeq (d : D) : DI := fun e μ => (d e μ).bind fun x μ1 => (R.lift ((rd μ1 x).bind seqItems) μ1).bind fun ts μ1 => .ok ⟨ts, fun μ' => rd μ' x = rd μ1 x⟩ μ1
@[simp] theorem iSeq_is (d : D) (e : Slots) (μ : Store) : iSeq d e μ = (d e μ).bind fun x μ1 => (R.lift ((rd μ1 x).bind seqItems) μ1).bind fun ts μ1 => .ok ⟨ts, fun μ' => rd μ' x = rd μ1 x⟩ μ1 := (rfl)
noncomputable def intsT (lo : Int) : Nat → List T
 | 0 => []
 | n + 1 => .int lo :: intsT (lo + 1) n
noncomputable def rngOk (j : Int) : Bool := decide (-(2 ^ 62) ≤ j) && decide (j < 2 ^ 62)
@[simp] theorem rngOk_of {j : Int} (h0 : 0 ≤ j) (h1 : j ≤ 1000000) : rngOk j = true := by
 unfold rngOk
 rw [decide_eq_true (by lia), decide_eq_true (by lia)]; rfl
theorem rngOk_iff {j : Int} (h : rngOk j = true) : -(2 ^ 62) ≤ j ∧ j < 2 ^ 62 := by
 unfold rngOk at h
 simp only [Bool.and_eq_true, decide_eq_true_eq] at h
 exact h
noncomputable def iRange1 (d : D) : DI := fun e μ => (d e μ).bind fun x μ1 => (R.lift ((rd μ1 x).bind asInt) μ1).bind fun j μ1 => if rngOk j = true then .ok ⟨intsT 0 j.toNat, fun _ => True⟩ μ1 else .bad
noncomputable def iRange2 (d d' : D) : DI := fun e μ => (d e μ).bind fun x μ1 => (d' e μ1).bind fun y μ2 => (R.lift ((rd μ2 x).bind asInt) μ2).bind fun i μ2 => (R.lift ((rd μ2 y).bind asInt) μ2).bind fun j μ2 =>
 if (rngOk i && rngOk j) = true then .ok ⟨intsT i (j - i).toNat, fun _ => True⟩ μ2 else .bad
@[simp] theorem iRange1_is (d : D) (e : Slots) (μ : Store) : iRange1 d e μ = (d e μ).bind fun x μ1 => (R.lift ((rd μ1 x).bind asInt) μ1).bind fun j μ1 => if rngOk j = true then .ok ⟨intsT 0 j.toNat, fun _ => True⟩ μ1 else .bad := (rfl)
@[simp] theorem iRange2_is (d d' : D) (e : Slots) (μ : Store) : iRange2 d d' e μ = (d e μ).bind fun x μ1 => (d' e μ1).bind fun y μ2 => (R.lift ((rd μ2 x).bind asInt) μ2).bind fun i μ2 => (R.lift ((rd μ2 y).bind asInt) μ2).bind fun j μ2 =>
 if (rngOk i && rngOk j) = true then .ok ⟨intsT i (j - i).toNat, fun _ => True⟩ μ2 else .bad := (rfl)
noncomputable def zipT : List T → List T → List T
 | t :: ts, u :: us => .tup [t, u] :: zipT ts us
 | _, _ => []
noncomputable def iZip (d d' : D) : DI := fun e μ => (d e μ).bind fun x μ1 => (d' e μ1).bind fun y μ2 => (R.lift ((rd μ2 x).bind seqItems) μ2).bind fun ts μ2 => (R.lift ((rd μ2 y).bind seqItems) μ2).bind fun us μ2 =>
 .ok ⟨zipT ts us, fun μ' => rd μ' x = rd μ2 x ∧ rd μ' y = rd μ2 y⟩ μ2
@[simp] theorem iZip_is (d d' : D) (e : Slots) (μ : Store) : iZip d d' e μ = (d e μ).bind fun x μ1 => (d' e μ1).bind fun y μ2 => (R.lift ((rd μ2 x).bind seqItems) μ2).bind fun ts μ2 => (R.lift ((rd μ2 y).bind seqItems) μ2).bind fun us μ2 =>
 .ok ⟨zipT ts us, fun μ' => rd μ' x = rd μ2 x ∧ rd μ' y = rd μ2 y⟩ μ2 := (rfl)
noncomputable abbrev BD := T → Slots → Option Slots
noncomputable def bName (i : Nat) : BD := fun t e => some (e.set i (some (.val t)))
noncomputable def bTup (is : List Nat) : BD := fun t e => match t with
 | .tup ts => if ts.length = is.length then some ((is.zip ts).foldl (fun e p => e.set p.1 (some (.val p.2))) e) else none
 | _ => none
@[simp] theorem bName_is (i : Nat) (t : T) (e : Slots) : bName i t e = some (e.set i (some (.val t))) := (rfl)
@[simp] theorem bTup_pair (i j : Nat) (t u : T) (e : Slots) : bTup [i, j] (.tup [t, u]) e = some ((e.set i (some (.val t))).set j (some (.val u))) := (rfl)
open Classical in
noncomputable def forL (same : Store → Prop) (b : BD) (body : DS) : List T → Slots → Store → RS
 | [], e, μ => if same μ then .nx e μ else .bad
 | t :: ts, e, μ => if same μ then
   match b t e with
   | none => .bad
   | some e1 => match body e1 μ with
    | .nx e2 μ2 => forL same b body ts e2 μ2
    | .ct e2 μ2 => forL same b body ts e2 μ2
    | .bk e2 μ2 => .nx e2 μ2
    | r => r
  else .bad
noncomputable def sFor (it : DI) (b : BD) (body : DS) : DS := fun e μ => (it e μ).toS e fun W μ1 => forL W.same b body W.items e μ1
@[simp] theorem sFor_is (it : DI) (b : BD) (body : DS) (e : Slots) (μ : Store) : sFor it b body e μ = (it e μ).toS e fun W μ1 => forL W.same b body W.items e μ1 := (rfl)
open Classical in
noncomputable def compL (same : Store → Prop) (b : BD) (c : D) (d : D) (e : Slots) : List T → Store → R (List T)
 | [], μ => if same μ then .ok [] μ else .bad
 | t :: ts, μ => if same μ then
   match b t e with
   | none => .bad
   | some e1 => (c e1 μ).calm.bind fun x μ1 => (R.lift (asB x) μ1).bind fun k μ1 =>
    if k = true then (d e1 μ1).calm.bind fun y μ2 => (frz y μ2).bind fun u μ3 => (compL same b c d e ts μ3).bind fun us μ4 => .ok (u :: us) μ4
    else compL same b c d e ts μ1
  else .bad
noncomputable def ini (mp : List (Option Nat)) (e : Slots) : Slots := mp.map fun o => o.bind fun j => slot e j
noncomputable def dComp (it : DI) (mp : List (Option Nat)) (b : BD) (c : D) (d : D) : D := fun e μ => (it e μ).bind fun W μ1 => (compL W.same b c d (ini mp e) W.items μ1).calm.bind fun us μ2 =>
 if W.items.length ≤ szL then .ok (.val (.lst us)) μ2 else .bad
@[simp] theorem dComp_is (it : DI) (mp : List (Option Nat)) (b : BD) (c : D) (d : D) (e : Slots) (μ : Store) : dComp it mp b c d e μ = (it e μ).bind fun W μ1 => (compL W.same b c d (ini mp e) W.items μ1).calm.bind fun us μ2 =>
 if W.items.length ≤ szL then .ok (.val (.lst us)) μ2 else .bad := (rfl)
@[simp] theorem ini_nil (e : Slots) : ini [] e = [] := (rfl)
@[simp] theorem ini_none (mp : List (Option Nat)) (e : Slots) : ini (none :: mp) e = none :: ini mp e := (rfl)
@[simp] theorem ini_some (j : Nat) (mp : List (Option Nat)) (e : Slots) : ini (some j :: mp) e = slot e j :: ini mp e := (rfl)
noncomputable def gc (n : Nat) (x : SV) (μ : Store) : R SV := match x with
 | .val t => .ok (.val t) (μ.take n)
 | .cel k => if k < n then .ok (.cel k) (μ.take n) else match μ[k]? with
  | some c => .ok (.cel n) (μ.take n ++ [c])
  | none => .bad
 | .box _ => .bad
noncomputable def starts (m : Nat) (xs : List SV) : Slots := xs.map some ++ List.replicate (m - xs.length) none
noncomputable def RS.endD (n : Nat) : RS → R SV
 | .rt x μ' => gc n x μ'
 | .nx _ μ' => gc n (.val .non) μ'
 | .err c _ μ' => .err c (μ'.take n)
 | _ => .bad
noncomputable def fnD (m : Nat) (body : DS) : FN := fun xs μ => (body (starts m xs) μ).endD μ.length
noncomputable def ice (n : Nat) (x : SV) (μ : Store) : R SV := (frz x μ).bind fun t μ1 => .ok (.val t) (μ1.take n)
noncomputable def RS.endV (n : Nat) : RS → R SV
 | .rt x μ' => ice n x μ'
 | .nx _ μ' => ice n (.val .non) μ'
 | .err c _ μ' => .err c (μ'.take n)
 | _ => .bad
noncomputable def fnV (m : Nat) (body : DS) : FN := fun xs μ => (body (starts m xs) μ).endV μ.length
noncomputable def RS.endK : RS → R SV
 | .rt x μ' => .ok x μ'
 | .nx _ μ' => .ok (.val .non) μ'
 | .err c _ μ' => .err c μ'
 | _ => .bad
noncomputable def fnK (m : Nat) (body : DS) : FN := fun xs μ => (body (starts m xs) μ).endK
@[simp] theorem endV_rt (n : Nat) (x : SV) (μ : Store) : (RS.rt x μ).endV n = ice n x μ := (rfl)
@[simp] theorem endD_rt (n : Nat) (x : SV) (μ : Store) : (RS.rt x μ).endD n = gc n x μ := (rfl)
@[simp] theorem endK_rt (x : SV) (μ : Store) : (RS.rt x μ).endK = .ok x μ := (rfl)
@[simp] theorem fnV_is (m : Nat) (body : DS) (xs : List SV) (μ : Store) : fnV m body xs μ = (body (starts m xs) μ).endV μ.length := (rfl)
@[simp] theorem fnD_is (m : Nat) (body : DS) (xs : List SV) (μ : Store) : fnD m body xs μ = (body (starts m xs) μ).endD μ.length := (rfl)
@[simp] theorem fnK_is (m : Nat) (body : DS) (xs : List SV) (μ : Store) : fnK m body xs μ = (body (starts m xs) μ).endK := (rfl)
end Fw
namespace Fw
open PySem L2
noncomputable def ExcAt (K : PySem.W.Frag) (a : Addr) (c : Str) (t : Option Str) (h : Heap) : Prop := ∃ C, PySem.W.nsIn K mainGlobals c = some (some (.ref C)) ∧ ExcCls a C h
section
variable (K : PySem.W.Frag) (F : Hp)
mutual
noncomputable def Rep : T → V → Prop
 | .non, v => v = .non
 | .bl b, v => v = .bl b
 | .int i, v => v = .int i
 | .str x, v => v = .str x
 | .lst ts, v => ∃ a vs, v = .ref a ∧ SqL K F a vs ∧ RepL ts vs
 | .tup ts, v => ∃ a vs, v = .ref a ∧ SqT K F a vs ∧ RepL ts vs
 | .dct kts, v => ∃ a kvs, v = .ref a ∧ F a = some (.dK kvs) ∧ RepD kts kvs
 | .exc c t, v => ∃ a, v = .ref a ∧ F a = some (.ext (ExcAt K a c t))
noncomputable def RepL : List T → List V → Prop
 | [], vs => vs = []
 | t :: ts, vs => ∃ v vs', vs = v :: vs' ∧ Rep t v ∧ RepL ts vs'
noncomputable def RepD : List (Key × T) → List (Key × V) → Prop
 | [], kvs => kvs = []
 | (k, t) :: kts, kvs => ∃ v kvs', kvs = (k, v) :: kvs' ∧ Rep t v ∧ RepD kts kvs'
end
end
theorem Same.seqT {K : PySem.W.Frag} {H H' : Hp} {a : Addr} {xs : List V} (e : Same H H') (h : SqT K H a xs) : SqT K H' a xs := by
 rcases h with (h | ⟨o, h⟩) | h
 ·exact .inl (.inl (e _ _ h))
 ·exact .inl (.inr ⟨o, e _ _ h⟩)
 ·exact .inr h
section
variable {K : PySem.W.Frag} {F F' H H' : Hp}
mutual
theorem Rep.mono (s : Same F F') : ∀ (t : T) (v : V), Rep K F t v → Rep K F' t v
 | .non, v, h => by rw [Rep] at h ⊢; exact h
 | .bl b, v, h => by rw [Rep] at h ⊢; exact h
 | .int i, v, h => by rw [Rep] at h ⊢; exact h
 | .str x, v, h => by rw [Rep] at h ⊢; exact h
 | .lst ts, v, h => by
  rw [Rep] at h ⊢
  obtain ⟨a, vs, e, q, r⟩ := h
  exact ⟨a, vs, e, s.seq q, RepL.mono s ts vs r⟩
 | .tup ts, v, h => by
  rw [Rep] at h ⊢
  obtain ⟨a, vs, e, q, r⟩ := h
  exact ⟨a, vs, e, Same.seqT s q, RepL.mono s ts vs r⟩
 | .dct kts, v, h => by
  rw [Rep] at h ⊢
  obtain ⟨a, vs, e, q, r⟩ := h
  exact ⟨a, vs, e, s _ _ q, RepD.mono s kts vs r⟩
 | .exc c t, v, h => by
  rw [Rep] at h ⊢
  obtain ⟨a, e, q⟩ := h
  exact ⟨a, e, s _ _ q⟩
theorem RepL.mono (s : Same F F') : ∀ (ts : List T) (vs : List V), RepL K F ts vs → RepL K F' ts vs
 | [], vs, h => by rw [RepL] at h ⊢; exact h
 | t :: ts, vs, h => by
  rw [RepL] at h ⊢
  obtain ⟨v, vs', e, q, r⟩ := h
  exact ⟨v, vs', e, Rep.mono s t v q, RepL.mono s ts vs' r⟩
theorem RepD.mono (s : Same F F') : ∀ (kts : List (Key × T)) (kvs : List (Key × V)), RepD K F kts kvs → RepD K F' kts kvs
 | [], vs, h => by rw [RepD] at h ⊢; exact h
 | (k, t) :: ts, vs, h => by
  rw [RepD] at h ⊢
  obtain ⟨v, vs', e, q, r⟩ := h
  exact ⟨v, vs', e, Rep.mono s t v q, RepD.mono s ts vs' r⟩
end
theorem Rep.of_int {i : Int} {v : V} (h : Rep K F (.int i) v) : v = .int i := by rw [Rep] at h; exact h
theorem Rep.of_bl {i : Bool} {v : V} (h : Rep K F (.bl i) v) : v = .bl i := by rw [Rep] at h; exact h
theorem Rep.of_str {i : Str} {v : V} (h : Rep K F (.str i) v) : v = .str i := by rw [Rep] at h; exact h
theorem Rep.of_non {v : V} (h : Rep K F .non v) : v = .non := by rw [Rep] at h; exact h
theorem Rep.int' (i : Int) : Rep K F (.int i) (.int i) := by rw [Rep]
theorem Rep.bl' (i : Bool) : Rep K F (.bl i) (.bl i) := by rw [Rep]
theorem Rep.str' (i : Str) : Rep K F (.str i) (.str i) := by rw [Rep]
theorem Rep.non' : Rep K F .non .non := by rw [Rep]
theorem RepL.length : ∀ {ts : List T} {vs : List V}, RepL K F ts vs → ts.length = vs.length
 | [], vs, h => by rw [RepL] at h; subst h; rfl
 | t :: ts, vs, h => by
  rw [RepL] at h
  obtain ⟨v, vs', rfl, _, r⟩ := h
  rw [List.length_cons, List.length_cons, RepL.length r]
theorem RepL.get : ∀ {ts : List T} {vs : List V} {i : Nat} {t : T}, RepL K F ts vs → ts[i]? = some t → ∃ v, vs[i]? = some v ∧ Rep K F t v
 | [], _, _, _, _, e => by simp at e
 | t :: ts, vs, 0, t', h, e => by
  rw [RepL] at h
  obtain ⟨v, vs', rfl, q, _⟩ := h
  simp at e; subst e
  exact ⟨v, rfl, q⟩
 | t :: ts, vs, i + 1, t', h, e => by
  rw [RepL] at h
  obtain ⟨v, vs', rfl, q, r⟩ := h
  obtain ⟨v', h1, h2⟩ := RepL.get (i := i) r (by simpa using e)
  exact ⟨v', by simpa using h1, h2⟩
theorem RepL.append : ∀ {ts us : List T} {vs ws : List V}, RepL K F ts vs → RepL K F us ws → RepL K F (ts ++ us) (vs ++ ws)
 | [], us, vs, ws, h, g => by rw [RepL] at h; subst h; exact g
 | t :: ts, us, vs, ws, h, g => by
  rw [RepL] at h
  obtain ⟨v, vs', rfl, q, r⟩ := h
  rw [List.cons_append, List.cons_append, RepL]
  exact ⟨v, vs' ++ ws, rfl, q, r.append g⟩
theorem RepL.nil' : RepL K F [] [] := by rw [RepL]
theorem RepL.cons' {t : T} {v : V} {ts : List T} {vs : List V} (q : Rep K F t v) (r : RepL K F ts vs) : RepL K F (t :: ts) (v :: vs) := by rw [RepL]; exact ⟨v, vs, rfl, q, r⟩
theorem RepL.one {t : T} {v : V} (q : Rep K F t v) : RepL K F [t] [v] := .cons' q .nil'
theorem RepL.drop : ∀ {ts : List T} {vs : List V} (n : Nat), RepL K F ts vs → RepL K F (ts.drop n) (vs.drop n)
 | _, _, 0, h => by simpa using h
 | [], vs, n + 1, h => by rw [RepL] at h; subst h; simpa using RepL.nil'
 | t :: ts, vs, n + 1, h => by
  rw [RepL] at h
  obtain ⟨v, vs', rfl, q, r⟩ := h
  exact r.drop n
theorem RepL.set : ∀ {ts : List T} {vs : List V} (i : Nat) {t : T} {v : V}, RepL K F ts vs → Rep K F t v → RepL K F (ts.set i t) (vs.set i v)
 | [], vs, i, _, _, h, _ => by rw [RepL] at h; subst h; simpa using RepL.nil'
 | t :: ts, vs, 0, t', v', h, g => by
  rw [RepL] at h
  obtain ⟨v, vs', rfl, q, r⟩ := h
  exact .cons' g r
 | t :: ts, vs, i + 1, t', v', h, g => by
  rw [RepL] at h
  obtain ⟨v, vs', rfl, q, r⟩ := h
  exact .cons' q (r.set i g)
theorem RepL.flat {ts : List T} {vs : List V} (h : RepL K F ts vs) : ∀ k : Nat, RepL K F (List.replicate k ts).flatten (List.replicate k vs).flatten
 | 0 => by simpa using RepL.nil'
 | k + 1 => by
  rw [List.replicate_succ, List.replicate_succ, List.flatten_cons, List.flatten_cons]
  exact h.append (h.flat k)
theorem RepL.of_ints : ∀ (ns : List Int), RepL K F (ns.map T.int) (ns.map V.int)
 | [] => .nil'
 | n :: ns => .cons' (Rep.int' n) (RepL.of_ints ns)
noncomputable def Now (K : PySem.W.Frag) (F H : Hp) (v : V) : T → Prop
 | .lst ts => ∃ a vs, v = .ref a ∧ SqL K H a vs ∧ RepL K F ts vs
 | .tup ts => ∃ a vs, v = .ref a ∧ SqT K F a vs ∧ RepL K F ts vs
 | .dct kts => ∃ a kvs, v = .ref a ∧ H a = some (.dK kvs) ∧ RepD K F kts kvs
 | t => Rep K F t v
theorem Now.of_rep (s : Same F H) {t : T} {v : V} (h : Rep K F t v) : Now K F H v t := by
 cases t with
 | lst ts => rw [Rep] at h; obtain ⟨a, vs, e, q, r⟩ := h; exact ⟨a, vs, e, s.seq q, r⟩
 | tup ts => rw [Rep] at h; obtain ⟨a, vs, e, q, r⟩ := h; exact ⟨a, vs, e, q, r⟩
 | dct ts => rw [Rep] at h; obtain ⟨a, vs, e, q, r⟩ := h; exact ⟨a, vs, e, s _ _ q, r⟩
 | _ => exact h
theorem Now.int {i : Int} {v : V} (h : Now K F H v (.int i)) : v = .int i := Rep.of_int (K := K) (F := F) h
theorem Now.bl {i : Bool} {v : V} (h : Now K F H v (.bl i)) : v = .bl i := Rep.of_bl (K := K) (F := F) h
theorem Now.str {i : Str} {v : V} (h : Now K F H v (.str i)) : v = .str i := Rep.of_str (K := K) (F := F) h
end
noncomputable def PtOk (K : PySem.W.Frag) (F : Hp) (α : List Addr) (v : V) : Sum T Nat → Prop
 | .inl t => Rep K F t v
 | .inr k => ∃ a, α[k]? = some a ∧ v = .ref a
noncomputable def SvOk (K : PySem.W.Frag) (F : Hp) (α : List Addr) (v : V) : SV → Prop
 | .val t => Rep K F t v
 | .cel k => ∃ a, α[k]? = some a ∧ v = .ref a
 | .box xs => ∃ a vs, v = .ref a ∧ SqT K F a vs ∧ Paired (PtOk K F α) vs xs
noncomputable def CellOk (K : PySem.W.Frag) (F H : Hp) (a : Addr) : T → Prop
 | .lst ts => ∃ vs, H a = some (.lst vs) ∧ RepL K F ts vs
 | .dct kts => ∃ kvs, H a = some (.dK kvs) ∧ RepD K F kts kvs
 | _ => False
structure StOk (K : PySem.W.Frag) (F : Hp) (α : List Addr) (μ : Store) (H : Hp) : Prop where
 ext : Same F H
 len : α.length = μ.length
 nd : α.Nodup
 there : ∀ (k : Nat) (a : Addr), α[k]? = some a → ∃ o, H a = some o
 cell : ∀ (k : Nat) (b : Bool) (t : T) (a : Addr), μ[k]? = some (b, t) → α[k]? = some a → (b = true → F a = none ∧ CellOk K F H a t) ∧ (b = false → Rep K F t (.ref a))
structure Sim (K : PySem.W.Frag) (F : Hp) (α : List Addr) (e : Slots) (μ : Store) (σ : St) (H : Hp) : Prop where
 st : StOk K F α μ H
 sl : ∀ i x, slot e i = some x → ∃ v, σ[i]? = some (some v) ∧ SvOk K F α v x
 len : e.length = σ.length
section
variable {K : PySem.W.Frag} {F F' F2 H H' : Hp} {α α' : List Addr} {e : Slots} {μ : Store} {σ : St} {v : V} {x : SV} {t : T}
theorem pre_get {k : Nat} {a : Addr} (p : α <+: α') (h : α[k]? = some a) : α'[k]? = some a := by
 obtain ⟨l, rfl⟩ := p
 have hk : k < α.length := (List.getElem?_eq_some_iff.mp h).1
 rw [List.getElem?_append_left hk]; exact h
theorem PtOk.mono {y : Sum T Nat} (s : Same F F') (p : α <+: α') (h : PtOk K F α v y) : PtOk K F' α' v y := by
 cases y with
 | inl t => exact Rep.mono s t v h
 | inr k => obtain ⟨a, h1, h2⟩ := h; exact ⟨a, pre_get p h1, h2⟩
theorem SvOk.mono (s : Same F F') (p : α <+: α') (h : SvOk K F α v x) : SvOk K F' α' v x := by
 cases x with
 | val t => exact Rep.mono s t v h
 | cel k => obtain ⟨a, h1, h2⟩ := h; exact ⟨a, pre_get p h1, h2⟩
 | box xs => obtain ⟨a, vs, e, q, r⟩ := h; exact ⟨a, vs, e, Same.seqT s q, Paired.imp' (fun _ _ z => PtOk.mono s p z) r⟩
theorem now_of (S : StOk K F α μ H) (h : SvOk K F α v x) (r : rd μ x = some t) : Now K F H v t := by
 cases x with
 | val u => cases r; exact Now.of_rep S.ext h
 | cel k =>
  obtain ⟨a, h1, rfl⟩ := h
  cases q : μ[k]? with
  | none => simp [rd, q] at r
  | some c =>
   obtain ⟨b, u⟩ := c
   simp only [rd, q, Option.map_some] at r
   cases r
   obtain ⟨c1, c2⟩ := S.cell k b t a q h1
   cases b with
   | false => exact Now.of_rep S.ext (c2 rfl)
   | true =>
    obtain ⟨_, c⟩ := c1 rfl
    cases t with
    | lst ts => obtain ⟨vs, g1, g2⟩ := c; exact ⟨a, vs, rfl, SqL.of g1, g2⟩
    | dct ts => obtain ⟨vs, g1, g2⟩ := c; exact ⟨a, vs, rfl, g1, g2⟩
    | _ => exact c.elim
 | box xs => cases r
noncomputable def Grow (F H F' H' : Hp) : Prop := ∀ b, (F' b = F b ∧ H' b = H b) ∨ (H b = none ∧ F' b = H' b)
theorem Grow.refl : Grow F H F H := fun _ => .inl ⟨rfl, rfl⟩
theorem Grow.new {p : Addr} {o : HO} (h : H p = none) : Grow F H (upd F p o) (upd H p o) := fun b => by
 by_cases e : b = p
 ·subst e; exact .inr ⟨h, by rw [upd_same, upd_same]⟩
 ·exact .inl ⟨upd_ne e, upd_ne e⟩
theorem Grow.same (g : Grow F H F' H') (s : Same F H) : Same F F' := fun b o h => by
 rcases g b with ⟨e1, e2⟩ | ⟨e1, e2⟩
 ·rw [e1]; exact h
 ·rw [s b o h] at e1; cases e1
theorem Grow.ext (g : Grow F H F' H') (s : Same F H) : Same F' H' := fun b o h => by
 rcases g b with ⟨e1, e2⟩ | ⟨e1, e2⟩
 ·rw [e2]; rw [e1] at h; exact s b o h
 ·rw [← e2]; exact h
theorem CellOk.grow (g : Grow F H F' H') (s : Same F H) {a : Addr} (h : CellOk K F H a t) : CellOk K F' H' a t := by
 have keep : ∀ {o : HO}, H a = some o → H' a = some o := fun {o} h => by
  rcases g a with ⟨e1, e2⟩ | ⟨e1, e2⟩
  ·rw [e2]; exact h
  ·rw [h] at e1; cases e1
 cases t with
 | lst ts => obtain ⟨vs, h1, h2⟩ := h; exact ⟨vs, keep h1, RepL.mono (g.same s) _ _ h2⟩
 | dct ts => obtain ⟨vs, h1, h2⟩ := h; exact ⟨vs, keep h1, RepD.mono (g.same s) _ _ h2⟩
 | _ => exact h.elim
theorem CellOk.there {a : Addr} (h : CellOk K F H a t) : ∃ o, H a = some o := by
 cases t with
 | lst ts => obtain ⟨vs, h1, h2⟩ := h; exact ⟨_, h1⟩
 | dct ts => obtain ⟨vs, h1, h2⟩ := h; exact ⟨_, h1⟩
 | _ => exact h.elim
theorem StOk.grow (S : StOk K F α μ H) (g : Grow F H F' H') : StOk K F' α μ H' where
 ext := g.ext S.ext
 len := S.len
 nd := S.nd
 there := fun k a h => by
  obtain ⟨o, ho⟩ := S.there k a h
  rcases g a with ⟨e1, e2⟩ | ⟨e1, e2⟩
  ·exact ⟨o, by rw [e2]; exact ho⟩
  ·rw [ho] at e1; cases e1
 cell := fun k b t a h1 h2 => by
  obtain ⟨c1, c2⟩ := S.cell k b t a h1 h2
  refine ⟨fun hb => ?_, fun hb => Rep.mono (g.same S.ext) _ _ (c2 hb)⟩
  obtain ⟨d1, d2⟩ := c1 hb
  refine ⟨?_, d2.grow g S.ext⟩
  obtain ⟨o, ho⟩ := d2.there
  rcases g a with ⟨e1, e2⟩ | ⟨e1, e2⟩
  ·rw [e1]; exact d1
  ·rw [ho] at e1; cases e1
theorem Sim.grow (S : Sim K F α e μ σ H) (g : Grow F H F' H') : Sim K F' α e μ σ H' where
 st := S.st.grow g
 sl := fun i x h => by
  obtain ⟨v, h1, h2⟩ := S.sl i x h
  exact ⟨v, h1, h2.mono (g.same S.st.ext) (List.prefix_refl _)⟩
 len := S.len
theorem Sim.of (S : Sim K F α e μ σ H) {μ' : Store} (s : Same F F') (p : α <+: α') (S' : StOk K F' α' μ' H') : Sim K F' α' e μ' σ H' :=
 ⟨S', fun i x h => by
  obtain ⟨v, h1, h2⟩ := S.sl i x h
  exact ⟨v, h1, h2.mono s p⟩, S.len⟩
theorem nodup_at {k j : Nat} {a : Addr} (n : α.Nodup) (h1 : α[k]? = some a) (h2 : α[j]? = some a) : k = j := by
 obtain ⟨a1, b1⟩ := List.getElem?_eq_some_iff.mp h1
 obtain ⟨a2, b2⟩ := List.getElem?_eq_some_iff.mp h2
 exact (List.getElem_inj n).mp (b1.trans b2.symm)
theorem frz_cel {k : Nat} (S : StOk K F α μ H) (h : ∃ a, α[k]? = some a ∧ v = .ref a) {μ' : Store} (r : frz (.cel k) μ = .ok t μ') : ∃ F', Same F F' ∧ (∀ b, b ∉ α → F' b = F b) ∧ StOk K F' α μ' H ∧ Rep K F' t v := by
  obtain ⟨a, h1, rfl⟩ := h
  unfold frz at r
  cases q : μ[k]? with
  | none => simp only [q] at r; cases r
  | some c =>
   obtain ⟨b, u⟩ := c
   simp only [q] at r
   cases r
   have hk : k < μ.length := (List.getElem?_eq_some_iff.mp q).1
   obtain ⟨c1, c2⟩ := S.cell k b t a q h1
   have main : ∃ F', Same F F' ∧ Same F' H ∧ Rep K F' t (.ref a) ∧ ∀ c, c ≠ a → F' c = F c := by
    cases b with
    | false => exact ⟨F, Same.refl F, S.ext, c2 rfl, fun _ _ => rfl⟩
    | true =>
     obtain ⟨d1, d2⟩ := c1 rfl
     obtain ⟨o, ho⟩ := d2.there
     have s1 : Same F (upd F a o) := fun c z hz => by
      rw [upd_ne (fun q => by subst q; rw [d1] at hz; cases hz)]; exact hz
     refine ⟨upd F a o, s1, fun c z hz => ?_, ?_, fun c hc => upd_ne hc⟩
     ·by_cases e : c = a
      ·subst e; rw [upd_same] at hz; cases hz; exact ho
      ·rw [upd_ne e] at hz; exact S.ext c z hz
     ·cases t with
      | lst ts => obtain ⟨vs, g1, g2⟩ := d2; rw [g1] at ho; cases ho; rw [Rep]; exact ⟨a, vs, rfl, SqL.of upd_same, RepL.mono s1 _ _ g2⟩
      | dct ts => obtain ⟨vs, g1, g2⟩ := d2; rw [g1] at ho; cases ho; rw [Rep]; exact ⟨a, vs, rfl, upd_same, RepD.mono s1 _ _ g2⟩
      | _ => exact d2.elim
   obtain ⟨F', s1, s2, rp, ne⟩ := main
   refine ⟨F', s1, fun c hc => ne c fun q => hc (by rw [q]; exact List.mem_of_getElem? h1), ⟨s2, by rw [List.length_set]; exact S.len, S.nd, S.there, fun j b' u' a' g1 g2 => ?_⟩, rp⟩
   by_cases e : j = k
   ·subst e
    rw [List.getElem?_set_self hk] at g1
    cases g1
    rw [h1] at g2; cases g2
    exact ⟨fun z => (by cases z), fun _ => rp⟩
   ·rw [List.getElem?_set_ne (Ne.symm e)] at g1
    obtain ⟨z1, z2⟩ := S.cell j b' u' a' g1 g2
    have na : a' ≠ a := fun q => by subst q; exact e (nodup_at S.nd g2 h1)
    refine ⟨fun hb => ?_, fun hb => Rep.mono s1 _ _ (z2 hb)⟩
    obtain ⟨y1, y2⟩ := z1 hb
    refine ⟨by rw [ne _ na]; exact y1, ?_⟩
    cases u' with
    | lst ts => obtain ⟨vs, w1, w2⟩ := y2; exact ⟨vs, w1, RepL.mono s1 _ _ w2⟩
    | dct ts => obtain ⟨vs, w1, w2⟩ := y2; exact ⟨vs, w1, RepD.mono s1 _ _ w2⟩
    | _ => exact y2.elim
theorem frz1_eq (k : Nat) (μ : Store) : frz1 (.inr k) μ = frz (.cel k) μ := by unfold frz1 frz; rfl
theorem frz1s_ok : ∀ {xs : List (Sum T Nat)} {vs : List V} {μ μ' : Store} {F : Hp} {ts : List T}, StOk K F α μ H → Paired (PtOk K F α) vs xs → frz1s xs μ = .ok ts μ' → ∃ F', Same F F' ∧ (∀ b, b ∉ α → F' b = F b) ∧ StOk K F' α μ' H ∧ RepL K F' ts vs
 | [], vs, μ, μ', F, ts, S, p, r => by
  cases p
  cases r
  exact ⟨F, Same.refl F, fun _ _ => rfl, S, RepL.nil'⟩
 | x :: xs, vs, μ, μ', F, ts, S, p, r => by
  cases p with
  | @cons v₁ _ vs₁ _ hv p =>
   unfold frz1s at r
   obtain ⟨t, μ1, r1, r⟩ := R.bind_eq_ok r
   obtain ⟨ts', μ2, r2, r⟩ := R.bind_eq_ok r
   cases r
   have one : ∃ F', Same F F' ∧ (∀ b, b ∉ α → F' b = F b) ∧ StOk K F' α μ1 H ∧ Rep K F' t v₁ := by
    cases x with
    | inl u => cases r1; exact ⟨F, Same.refl F, fun _ _ => rfl, S, hv⟩
    | inr k => rw [frz1_eq] at r1; exact frz_cel S hv r1
   obtain ⟨F1, s1, n1, S1, q1⟩ := one
   obtain ⟨F2, s2, n2, S2, q2⟩ := frz1s_ok S1 (Paired.imp' (fun _ _ z => PtOk.mono s1 (List.prefix_refl _) z) p) r2
   exact ⟨F2, s1.trans s2, fun b hb => (n2 b hb).trans (n1 b hb), S2, .cons' (Rep.mono s2 _ _ q1) q2⟩
theorem frz_ok (S : StOk K F α μ H) (h : SvOk K F α v x) {μ' : Store} (r : frz x μ = .ok t μ') : ∃ F', Same F F' ∧ (∀ b, b ∉ α → F' b = F b) ∧ StOk K F' α μ' H ∧ Rep K F' t v := by
 cases x with
 | val u => cases r; exact ⟨F, Same.refl F, fun _ _ => rfl, S, h⟩
 | cel k => exact frz_cel S h r
 | box xs =>
  obtain ⟨a, vs, rfl, q, p⟩ := h
  unfold frz at r
  obtain ⟨ts, μ1, r1, r⟩ := R.bind_eq_ok r
  cases r
  obtain ⟨F1, s1, n1, S1, q1⟩ := frz1s_ok S p r1
  refine ⟨F1, s1, n1, S1, ?_⟩
  rw [Rep]
  exact ⟨a, vs, rfl, Same.seqT s1 q, q1⟩
theorem frzs_ok : ∀ {xs : List SV} {vs : List V} {μ μ' : Store} {F : Hp} {ts : List T}, StOk K F α μ H → Paired (fun v x => SvOk K F α v x) vs xs → frzs xs μ = .ok ts μ' → ∃ F', Same F F' ∧ (∀ b, b ∉ α → F' b = F b) ∧ StOk K F' α μ' H ∧ RepL K F' ts vs
 | [], vs, μ, μ', F, ts, S, p, r => by
  cases p
  cases r
  exact ⟨F, Same.refl F, fun _ _ => rfl, S, RepL.nil'⟩
 | x :: xs, vs, μ, μ', F, ts, S, p, r => by
  cases p with
  | cons hv p =>
   rw [frzs_cons] at r
   obtain ⟨t, μ1, r1, r⟩ := R.bind_eq_ok r
   obtain ⟨ts', μ2, r2, r⟩ := R.bind_eq_ok r
   cases r
   obtain ⟨F1, s1, n1, S1, q1⟩ := frz_ok S hv r1
   obtain ⟨F2, s2, n2, S2, q2⟩ := frzs_ok S1 (Paired.imp' (fun _ _ z => SvOk.mono s1 (List.prefix_refl _) z) p) r2
   exact ⟨F2, s1.trans s2, fun b hb => (n2 b hb).trans (n1 b hb), S2, .cons' (Rep.mono s2 _ _ q1) q2⟩
theorem put_ok (S : StOk K F α μ H) {k : Nat} {a : Addr} {t₀ : T} {o : HO} (hk : μ[k]? = some (true, t₀)) (ha : α[k]? = some a) (c : CellOk K F (upd H a o) a t) : StOk K F α (μ.set k (true, t)) (upd H a o) := by
 have hlt : k < μ.length := (List.getElem?_eq_some_iff.mp hk).1
 have hF := ((S.cell k true t₀ a hk ha).1 rfl).1
 refine ⟨fun b z hz => ?_, by rw [List.length_set]; exact S.len, S.nd, fun j b h => ?_, fun j b u a' h1 h2 => ?_⟩
 ·rw [upd_ne (fun q => by subst q; rw [hF] at hz; cases hz)]; exact S.ext b z hz
 ·by_cases e : b = a
  ·subst e; exact ⟨o, upd_same⟩
  ·rw [upd_ne e]; exact S.there j b h
 ·by_cases e : j = k
  ·subst e
   rw [List.getElem?_set_self hlt] at h1
   cases h1
   rw [ha] at h2; cases h2
   exact ⟨fun _ => ⟨hF, c⟩, fun z => (by cases z)⟩
  ·rw [List.getElem?_set_ne (Ne.symm e)] at h1
   have na : a' ≠ a := fun q => by subst q; exact e (nodup_at S.nd h2 ha)
   obtain ⟨c1, c2⟩ := S.cell j b u a' h1 h2
   refine ⟨fun hb => ⟨(c1 hb).1, ?_⟩, c2⟩
   have d := (c1 hb).2
   cases u with
   | lst ts => obtain ⟨vs, w1, w2⟩ := d; exact ⟨vs, by rw [upd_ne na]; exact w1, w2⟩
   | dct ts => obtain ⟨vs, w1, w2⟩ := d; exact ⟨vs, by rw [upd_ne na]; exact w1, w2⟩
   | _ => exact d.elim
theorem StOk.take {β : List Addr} (S : StOk K F β μ H) (n : Nat) : StOk K F (β.take n) (μ.take n) H := by
 have cut : ∀ {γ : Type} {l : List γ} {k : Nat} {z : γ}, (l.take n)[k]? = some z → l[k]? = some z := fun {γ l k z} h => by
  rw [List.getElem?_take] at h
  split at h
  ·exact h
  ·cases h
 exact ⟨S.ext, by rw [List.length_take, List.length_take, S.len], S.nd.sublist (List.take_sublist _ _), fun k a h => S.there k a (cut h), fun k b t a h1 h2 => S.cell k b t a (cut h1) (cut h2)⟩
theorem gc_ok {μ₀ : Store} {β : List Addr} {r : SV} {μ' : Store} (hα : α.length = μ₀.length) (p : α <+: β) (S : StOk K F β μ H) (h : SvOk K F β v x) (hg : gc μ₀.length x μ = .ok r μ') :
  ∃ γ, α <+: γ ∧ (∀ b, b ∈ γ → b ∈ β) ∧ StOk K F γ μ' H ∧ SvOk K F γ v r := by
 have hn : β.take μ₀.length = α := by
  rw [← hα]
  obtain ⟨l, rfl⟩ := p
  simp
 have hp : α <+: β.take μ₀.length := by rw [hn]; exact List.prefix_refl _
 unfold gc at hg
 cases x with
 | val t =>
  simp only at hg
  cases hg
  exact ⟨β.take μ₀.length, hp, fun b hb => List.mem_of_mem_take hb, S.take _, h⟩
 | cel k =>
  obtain ⟨a, ha, rfl⟩ := h
  simp only at hg
  by_cases hk : k < μ₀.length
  ·rw [if_pos hk] at hg
   cases hg
   exact ⟨β.take μ₀.length, hp, fun b hb => List.mem_of_mem_take hb, S.take _, a, by rw [List.getElem?_take_of_lt hk]; exact ha, rfl⟩
  ·rw [if_neg hk] at hg
   cases hc : μ[k]? with
   | none => rw [hc] at hg; cases hg
   | some c =>
    rw [hc] at hg
    cases hg
    have T := S.take μ₀.length
    have hl : (β.take μ₀.length).length = μ₀.length := by rw [hn]; exact hα
    have hl2 : (μ.take μ₀.length).length = μ₀.length := by rw [← T.len]; exact hl
    have hend : ∀ {γ : Type} {l : List γ} {z : γ} {j : Nat} {y : γ}, l.length = μ₀.length → (l ++ [z])[j]? = some y → (j < μ₀.length ∧ l[j]? = some y) ∨ (j = μ₀.length ∧ y = z) := fun {γ l z j y} e h => by
     by_cases hj : j < l.length
     ·rw [List.getElem?_append_left hj] at h; exact .inl ⟨by lia, h⟩
     ·rw [List.getElem?_append_right (by lia)] at h
      by_cases h0 : j - l.length = 0
      ·rw [h0] at h; simp at h; exact .inr ⟨by lia, h.symm⟩
      ·rw [List.getElem?_eq_none (by simp; lia)] at h; cases h
    have cut : ∀ {γ : Type} {l : List γ} {j : Nat} {z : γ}, (l.take μ₀.length)[j]? = some z → l[j]? = some z := fun {γ l j z} h => by
     rw [List.getElem?_take] at h
     split at h
     ·exact h
     ·cases h
    refine ⟨β.take μ₀.length ++ [a], hp.trans (List.prefix_append _ _), fun b hb => (List.mem_append.mp hb).elim (fun z => List.mem_of_mem_take z) fun z => by simp at z; subst z; exact List.mem_of_getElem? ha, ⟨S.ext, by rw [List.length_append, List.length_append, hl, hl2]; rfl, ?_, fun j b g => ?_, fun j b u a' g1 g2 => ?_⟩, a, ?_, rfl⟩
    ·rw [List.nodup_append]
     refine ⟨T.nd, by simp, fun b hb b' hb' => ?_⟩
     simp at hb'
     subst hb'
     intro q
     subst q
     obtain ⟨j, hj⟩ := List.mem_iff_getElem?.mp hb
     have hj' : j < μ₀.length := by rw [← hl]; exact (List.getElem?_eq_some_iff.mp hj).1
     have := nodup_at S.nd (cut hj) ha
     lia
    ·rcases hend hl g with ⟨_, g'⟩ | ⟨_, rfl⟩
     ·exact T.there j b g'
     ·exact S.there k _ ha
    ·rcases hend hl g2 with ⟨hj, g'⟩ | ⟨hj, rfl⟩
     ·rcases hend hl2 g1 with ⟨_, g1'⟩ | ⟨hj', _⟩
      ·exact T.cell j b u a' g1' g'
      ·lia
     ·rcases hend hl2 g1 with ⟨hj', _⟩ | ⟨_, e⟩
      ·lia
      ·exact S.cell k b u _ (by rw [hc, e]) ha
    ·rw [List.getElem?_append_right (by lia), hl]
     simp
 | box xs => cases hg
theorem ice_ok {μ₀ : Store} {β : List Addr} {r : SV} {μ' : Store} (hα : α.length = μ₀.length) (p : α <+: β) (S : StOk K F β μ H) (h : SvOk K F β v x) (hg : ice μ₀.length x μ = .ok r μ') :
  ∃ F', Same F F' ∧ (∀ b, b ∉ β → F' b = F b) ∧ StOk K F' α μ' H ∧ SvOk K F' α v r := by
 unfold ice at hg
 obtain ⟨t, μ1, h1, hg⟩ := R.bind_eq_ok hg
 cases hg
 obtain ⟨F1, s1, n1, S1, q1⟩ := frz_ok S h h1
 have hn : β.take μ₀.length = α := by
  rw [← hα]
  obtain ⟨l, rfl⟩ := p
  simp
 have S2 := S1.take μ₀.length
 rw [hn] at S2
 exact ⟨F1, s1, n1, S2, q1⟩
end
structure Ex (F : Hp) (α : List Addr) (H F' : Hp) (α' : List Addr) (H' : Hp) : Prop where
 same : Same F F'
 pre : α <+: α'
 fr : ∀ b o, H b = some o → F b = none → b ∉ α → H' b = some o ∧ F' b = none ∧ b ∉ α'
section
variable {K : PySem.W.Frag} {F F' F1 F2 H H' H1 H2 : Hp} {α α' α1 α2 : List Addr} {μ μ' : Store}
theorem Ex.refl : Ex F α H F α H := ⟨Same.refl F, List.prefix_refl _, fun _ _ h1 h2 h3 => ⟨h1, h2, h3⟩⟩
theorem Ex.trans (x : Ex F α H F1 α1 H1) (y : Ex F1 α1 H1 F2 α2 H2) : Ex F α H F2 α2 H2 :=
 ⟨x.same.trans y.same, x.pre.trans y.pre, fun b o h1 h2 h3 => let ⟨g1, g2, g3⟩ := x.fr b o h1 h2 h3; y.fr b o g1 g2 g3⟩
theorem Ex.of_ne (s : Same F F') (n : ∀ b, b ∉ α → F' b = F b) : Ex F α H F' α H := ⟨s, List.prefix_refl _, fun b o h1 h2 h3 => ⟨h1, by rw [n b h3]; exact h2, h3⟩⟩
theorem Grow.ex (g : Grow F H F' H') (s : Same F H) : Ex F α H F' α H' := ⟨g.same s, List.prefix_refl _, fun b o h1 h2 h3 => by
 rcases g b with ⟨e1, e2⟩ | ⟨e1, e2⟩
 ·exact ⟨by rw [e2]; exact h1, by rw [e1]; exact h2, h3⟩
 ·rw [h1] at e1; cases e1⟩
theorem Ex.was {p : Addr} (x : Ex F α H F1 α1 H1) (S : StOk K F1 α1 μ H1) (h : H1 p = none) : H p = none := by
 cases q : H p with
 | none => rfl
 | some o =>
  exfalso
  cases f : F p with
  | some z => rw [S.ext p z (x.same p z f)] at h; cases h
  | none =>
   by_cases hm : p ∈ α
   ·obtain ⟨k, hk⟩ := List.mem_iff_getElem?.mp hm
    obtain ⟨z, hz⟩ := S.there k p (pre_get x.pre hk)
    rw [hz] at h; cases h
   ·rw [(x.fr p o q f hm).1] at h; cases h
theorem Ex.lay {p : Addr} {o : HO} (h : H p = none) : Ex F α H F α (upd H p o) := ⟨Same.refl F, List.prefix_refl _, fun b z h1 h2 h3 => ⟨by rw [upd_ne (fun q => by subst q; rw [h] at h1; cases h1)]; exact h1, h2, h3⟩⟩
theorem Ex.put {k : Nat} {a : Addr} {o : HO} (ha : α[k]? = some a) : Ex F α H F α (upd H a o) := ⟨Same.refl F, List.prefix_refl _, fun b z h1 h2 h3 => ⟨by rw [upd_ne (fun q => h3 (by rw [q]; exact List.mem_of_getElem? ha))]; exact h1, h2, h3⟩⟩
theorem Ex.more {p : Addr} (x : Ex F α H F' α' H') (h : H p = none) : Ex F α H F' (α' ++ [p]) H' := ⟨x.same, x.pre.trans (List.prefix_append _ _), fun b o h1 h2 h3 => by
 obtain ⟨g1, g2, g3⟩ := x.fr b o h1 h2 h3
 refine ⟨g1, g2, fun hm => ?_⟩
 rcases List.mem_append.mp hm with z | z
 ·exact g3 z
 ·simp at z; subst z; rw [h] at h1; cases h1⟩
theorem Ex.ice {p : Addr} {o : HO} (x : Ex F α H F' α' H') (h : H p = none) (h' : F' p = none) : Ex F α H (upd F' p o) α' H' := ⟨x.same.trans fun b z hz => by
  rw [upd_ne (fun q => by subst q; rw [h'] at hz; cases hz)]; exact hz, x.pre, fun b z h1 h2 h3 => by
 obtain ⟨g1, g2, g3⟩ := x.fr b z h1 h2 h3
 exact ⟨g1, by rw [upd_ne (fun q => by subst q; rw [h] at h1; cases h1)]; exact g2, g3⟩⟩
end
end Fw
namespace Fw
open PySem L2
theorem RepD.length {K : PySem.W.Frag} {F : Hp} : ∀ {ts : List (Key × T)} {vs : List (Key × V)}, RepD K F ts vs → ts.length = vs.length
 | [], vs, h => by rw [RepD] at h; subst h; rfl
 | (k, t) :: ts, vs, h => by
  rw [RepD] at h
  obtain ⟨v, vs', rfl, _, r⟩ := h
  rw [List.length_cons, List.length_cons, RepD.length r]
end Fw
namespace Fw
open PySem L2
noncomputable def R.wp {α : Type} (r : R α) (Q : α → Store → Prop) (E : T → Store → Prop) : Prop := match r with
 | .ok a μ => Q a μ
 | .err c μ => E c μ
 | .bad => False
theorem R.wp_bind {α β : Type} {r : R α} {f : α → Store → R β} {Q : β → Store → Prop} {E : T → Store → Prop} (h : (r.bind f).wp Q E) : r.wp (fun a μ => (f a μ).wp Q E) E := by
 cases r <;> exact h
theorem R.wp.mono {α : Type} {r : R α} {Q Q' : α → Store → Prop} {E E' : T → Store → Prop} (h : r.wp Q E) (hQ : ∀ a μ, Q a μ → Q' a μ) (hE : ∀ c μ, E c μ → E' c μ) : r.wp Q' E' := by
 cases r with
 | ok a μ => exact hQ a μ h
 | err c μ => exact hE c μ h
 | bad => exact h
theorem R.wp_lift {α : Type} {o : Option α} {μ : Store} {Q : α → Store → Prop} {E : T → Store → Prop} (h : (R.lift o μ).wp Q E) : ∃ a, o = some a ∧ Q a μ := by
 cases o with
 | none => exact h.elim
 | some a => exact ⟨a, rfl, h⟩
noncomputable def Post (K : PySem.W.Frag) (F : Hp) (α : List Addr) (H : Hp) (e : Slots) (σ : St) (Q : VK) (x : SV) (μ : Store) : Prop :=
 ∀ v H' F' α', Ex F α H F' α' H' → Sim K F' α' e μ σ H' → SvOk K F' α' v x → Q v H'
noncomputable def Flies (X : Cx) (pins : List (Addr × Obj)) (σ : St) (H : Hp) (c : T) (ev : Value) (s' : Shared) : Prop :=
 ∃ n C, c = .exc n none ∧ X.mg n = some (.ref C) ∧ ((X.calm = true ∧ ∃ s h' e vs, Inv X pins σ H s ∧ Heap.MadeExcOf s.heap h' e (.ref C) vs ∧ ev = .ref e ∧ s' = { s with heap := h' }) ∨
  (∃ H0 s, Inv X pins σ H0 s ∧ CX1 X.prog X.w X.stack H0 s (fun cv _ H' => cv = .ref C ∧ H' = H) ev s') ∨ (X.calm = true ∧ ∃ e t B, ev = .ref e ∧ Hel X pins σ H e t C B s'))
noncomputable def XPost (X : Cx) (F : Hp) (α : List Addr) (H : Hp) (e : Slots) (c : T) (μ : Store) : Prop :=
 ∀ ev s', (∃ pins σ' H' F' α', Ex F α H F' α' H' ∧ Sim X.K F' α' e μ σ' H' ∧ Flies X pins σ' H' c ev s') → X.xe ev s'
theorem XPost.mono {X : Cx} {F F1 H H1 : Hp} {α α1 : List Addr} {e : Slots} {c : T} {μ : Store} (x : Ex F α H F1 α1 H1) (h : XPost X F α H e c μ) : XPost X F1 α1 H1 e c μ :=
 fun ev s' ⟨pins, σ', H', F', α', y, S, f⟩ => h ev s' ⟨pins, σ', H', F', α', x.trans y, S, f⟩
noncomputable def tD (X : Cx) (d : D) : TE := fun σ H Q => ∃ F α e μ, Sim X.K F α e μ σ H ∧ (d e μ).wp (Post X.K F α H e σ Q) (XPost X F α H e)
noncomputable def tDT (X : Cx) (d : D) : TT := fun σ H Q => ∃ F α e μ, Sim X.K F α e μ σ H ∧ (d e μ).wp (fun x μ' => ∃ b, x = .val (.bl b) ∧
 ∀ H' F' α', Ex F α H F' α' H' → Sim X.K F' α' e μ' σ H' → Q b H') (XPost X F α H e)
noncomputable def tDA (X : Cx) (ds : List D) : TA := fun σ H Q => ∃ F α e μ, Sim X.K F α e μ σ H ∧ (dArgs ds e μ).wp (fun xs μ' =>
 ∀ vs H' F' α', Ex F α H F' α' H' → Sim X.K F' α' e μ' σ H' → Paired (fun v x => SvOk X.K F' α' v x) vs xs → Q vs H') (XPost X F α H e)
noncomputable def CE (X : Cx) (e : Expr) (d : D) : Prop := PE X e (tD X d)
noncomputable def CT (X : Cx) (e : Expr) (d : D) : Prop := PT X e (tDT X d)
noncomputable def CA (X : Cx) (es : List Expr) (ds : List D) : Prop := PA X es (tDA X ds)
theorem PE.imp {X : Cx} {e : Expr} {t t' : TE} (h : PE X e t) (i : ∀ σ H Q, t' σ H Q → t σ H Q) : PE X e t' := fun pins s σ H Q I q => h pins s σ H Q I (i σ H Q q)
theorem PT.imp {X : Cx} {e : Expr} {t t' : TT} (h : PT X e t) (i : ∀ σ H Q, t' σ H Q → t σ H Q) : PT X e t' := fun pins s σ H Q I q => h pins s σ H Q I (i σ H Q q)
theorem PA.imp {X : Cx} {e : List Expr} {t t' : TA} (h : PA X e t) (i : ∀ σ H Q, t' σ H Q → t σ H Q) : PA X e t' := fun pos pins s σ H Q I q => h pos pins s σ H Q I (i σ H Q q)
theorem PS.imp {X : Cx} {e : Stmt} {t t' : TS} (h : PS X e t) (i : ∀ D σ H, t' D σ H → t D σ H) : PS X e t' := fun pins s σ H D I q => h pins s σ H D I (i D σ H q)
theorem PSs.imp {X : Cx} {e : List Stmt} {t t' : TS} (h : PSs X e t) (i : ∀ D σ H, t' D σ H → t D σ H) : PSs X e t' := fun pins s σ H D I q => h pins s σ H D I (i D σ H q)
noncomputable def OpSem (K : PySem.W.Frag) (r : R2) (f : T → T → Option T) : Prop := ∀ F H v u t t' w Q, Same F H → Now K F H v t → Now K F H u t' → f t t' = some w →
 (∀ v' H' F', Grow F H F' H' → Rep K F' w v' → Q v' H') → r v u H Q
noncomputable def UnSem (K : PySem.W.Frag) (r : V → Hp → VK → Prop) (f : T → Option T) : Prop := ∀ F H v t w Q, Same F H → Now K F H v t → f t = some w →
 (∀ v' H' F', Grow F H F' H' → Rep K F' w v' → Q v' H') → r v H Q
noncomputable def CallSem1 (K : PySem.W.Frag) (r : List V → Hp → VK → Prop) (f : T → Option T) : Prop := ∀ F H v t w Q, Same F H → Now K F H v t → f t = some w →
 (∀ v' H' F', Grow F H F' H' → Rep K F' w v' → Q v' H') → r [v] H Q
noncomputable def CallSem2 (K : PySem.W.Frag) (r : List V → Hp → VK → Prop) (f : T → T → Option T) : Prop := ∀ F H v u t t' w Q, Same F H → Now K F H v t → Now K F H u t' → f t t' = some w →
 (∀ v' H' F', Grow F H F' H' → Rep K F' w v' → Q v' H') → r [v, u] H Q
noncomputable def CallSemF (K : PySem.W.Frag) (r : List V → Hp → VK → Prop) (f : T → Option T) : Prop := ∀ F H v t w Q, Same F H → Now K F H v t → f t = some w →
 (∀ p o, H p = none → CellOk K F (upd H p o) p w → Q (.ref p) (upd H p o)) → r [v] H Q
section
variable {X : Cx} {a b c : Expr} {da db dc : D} {pos : Pos}
theorem ce_var (i : Nat) {x : Str} (hN : X.N[i]? = some x := by rfl) (hv : Vis X.env.scope x := by first | exact Or.inl rfl | exact Or.inr (Or.inl rfl) | exact Or.inr (Or.inr rfl)) (hd : (x == ("__debug__" : Str)) = false := by decide)
  (hcd : (x == ("__classdict__" : Str)) = false := by decide) : CE X (.Name x pos) (dVar i) :=
 PE.imp (pe_var hN hv hd hcd) fun σ H Q hX11_ => by
  obtain ⟨F, α, e, μ, S, h⟩ := hX11_
  obtain ⟨x, h1, h⟩ := R.wp_lift h
  obtain ⟨v, hv, ok⟩ := S.sl i x h1
  exact ⟨v, hv, h v H F α Ex.refl S ok⟩
theorem ce_const {v : V} {t : T} (h : PE X a (tC v)) (r : ∀ F, Rep X.K F t v) : CE X a (dC t) :=
 PE.imp h fun σ H Q ⟨F, α, e, μ, S, h⟩ => h v H F α Ex.refl S (r F)
theorem ce_int {i : Int} {j pos} : CE X (.Constant (.int i) j pos) (dC (.int i)) := ce_const pe_int fun _ => Rep.int' i
theorem ce_bl {i : Bool} {j pos} : CE X (.Constant (.bool i) j pos) (dC (.bl i)) := ce_const pe_bl fun _ => Rep.bl' i
theorem ce_str {i : Str} {j pos} : CE X (.Constant (.str i) j pos) (dC (.str i)) := ce_const pe_str fun _ => Rep.str' i
theorem ce_non {j pos} : CE X (.Constant .none j pos) (dC .non) := ce_const pe_non fun _ => Rep.non'
theorem ce_gint {x : Str} {i : Int} {tk : Nat} (hm : X.mg x = some (.int i tk)) (hg : Gl X x := by rfl) (hd : (x == ("__debug__" : Str)) = false := by decide) : CE X (.Name x pos) (dC (.int i)) := ce_const (v := .int i) (pe_glob hg hm ⟨tk, rfl⟩ hd) fun _ => Rep.int' i
theorem two {r : R2} {f : T → T → Option T} (hs : OpSem X.K r f) (σ : St) (H : Hp) (Q : VK) (h : tD X (dBin f da db) σ H Q) : tOp r (tD X da) (tD X db) σ H Q := by
 obtain ⟨F, α, e, μ, S, h⟩ := h
 refine ⟨F, α, e, μ, S, ?_⟩
 refine (R.wp_bind h).mono (fun x μ1 h v H1 F1 α1 x1 S1 o1 => ⟨F1, α1, e, μ1, S1, ?_⟩) fun _ _ h => h
 refine (R.wp_bind h).mono (fun y μ2 h v2 H2 F2 α2 x2 S2 o2 => ?_) fun _ _ h => h.mono x1
 obtain ⟨w, h9, post⟩ := R.wp_lift h
 obtain ⟨t, u, w', ht, hu, h, rfl⟩ := ap2_eq h9
 exact hs F2 H2 v v2 t u w' Q S2.st.ext (now_of S2.st (o1.mono x2.same x2.pre) ht) (now_of S2.st o2 hu) h fun v' H' F' g rp =>
  post v' H' F' α2 (x1.trans (x2.trans (g.ex S2.st.ext))) (S2.grow g) rp
theorem ce_bin {op : Operator} {r : R2} {f : T → T → Option T} (ho : OpR X (binaryOp op) r) (hs : OpSem X.K r f) (ha : CE X a da) (hb : CE X b db) : CE X (.BinOp a op b pos) (dBin f da db) :=
 PE.imp (pe_op ho ha hb) (two hs)
theorem ce_cmp {op : CmpOp} {r : R2} {f : T → T → Option T} (ho : OpR X (compareOp op) r) (hs : OpSem X.K r f) (hm : behindInMarks op b = false) (ha : CE X a da) (hb : CE X b db) : CE X (.Compare a [op] [b] pos) (dBin f da db) :=
 PE.imp (pe_cmpR ho ha hb hm) (two hs)
theorem one {r : V → Hp → VK → Prop} {f : T → Option T} (hs : UnSem X.K r f) (σ : St) (H : Hp) (Q : VK) (h : tD X (dUn f da) σ H Q) : tUn r (tD X da) σ H Q := by
 obtain ⟨F, α, e, μ, S, h⟩ := h
 refine ⟨F, α, e, μ, S, ?_⟩
 refine (R.wp_bind h).mono (fun x μ1 h v H1 F1 α1 x1 S1 o1 => ?_) fun _ _ h => h
 obtain ⟨w, h9, post⟩ := R.wp_lift h
 obtain ⟨t, w', ht, h, rfl⟩ := ap1_eq h9
 exact hs F1 H1 v t w' Q S1.st.ext (now_of S1.st o1 ht) h fun v' H' F' g rp =>
  post v' H' F' α1 (x1.trans (g.ex S1.st.ext)) (S1.grow g) rp
theorem ca_nil : CA X [] [] := PA.imp pa_nil fun σ H Q ⟨F, α, e, μ, S, h⟩ => h [] H F α Ex.refl S .nil
theorem ca_cons {es : List Expr} {ds : List D} (ha : CE X a da) (hr : CA X es ds) (hs : starEach (a :: es) X.env = (false, eval a X.env) :: starEach es X.env := by rfl) : CA X (a :: es) (da :: ds) :=
 PA.imp (pa_cons ha hr hs) fun σ H Q hX11_ => by
  obtain ⟨F, α, e, μ, S, h⟩ := hX11_
  rw [dArgs_cons] at h
  refine ⟨F, α, e, μ, S, (R.wp_bind h).mono (fun x μ1 h v H1 F1 α1 x1 S1 o1 => ⟨F1, α1, e, μ1, S1, ?_⟩) fun _ _ h => h⟩
  refine (R.wp_bind h).mono (fun xs μ2 h vs H2 F2 α2 x2 S2 o2 => ?_) fun _ _ h => h.mono x1
  exact h (v :: vs) H2 F2 α2 (x1.trans x2) S2 (.cons (o1.mono x2.same x2.pre) o2)
theorem dArgs_len : ∀ {ds : List D} {e : Slots} {μ μ' : Store} {xs : List SV}, dArgs ds e μ = .ok xs μ' → xs.length = ds.length
 | [], e, μ, μ', xs, h => by cases h; rfl
 | d :: ds, e, μ, μ', xs, h => by
  rw [dArgs_cons] at h
  obtain ⟨x, μ1, hx, h⟩ := R.bind_eq_ok h
  obtain ⟨ys, μ2, hy, h⟩ := R.bind_eq_ok h
  cases h
  rw [List.length_cons, List.length_cons, dArgs_len hy]
theorem dArgs_wp_len {ds : List D} {e : Slots} {μ : Store} {Q : List SV → Store → Prop} {E : T → Store → Prop} (h : (dArgs ds e μ).wp Q E) : (dArgs ds e μ).wp (fun xs μ' => xs.length = ds.length ∧ Q xs μ') E := by
 cases q : dArgs ds e μ with
 | ok xs μ' => rw [q] at h; exact ⟨dArgs_len q, h⟩
 | err c μ' => rw [q] at h; exact h
 | bad => rw [q] at h; exact h
theorem small_len {n : Nat} {xs : List SV} {vs : List V} {P : V → SV → Prop} (h : xs.length = n) (o : Paired P vs xs) (hl : n ≤ 1000) : vs.length ≤ sizeLine := by
 have e1 := o.length
 exact Nat.le_of_lt (small1000 (by lia))
theorem ce_tup {es : List Expr} {ds : List D} {x1} (h : CA X es ds) (hl : ds.length ≤ 1000 := by decide) : CE X (.Tuple es x1 pos) (dTup ds) :=
 PE.imp (pe_tup h) fun σ H Q hX11_ => by
  obtain ⟨F, α, e, μ, S, h⟩ := hX11_
  refine ⟨F, α, e, μ, S, (dArgs_wp_len (R.wp_bind h)).mono (fun xs μ1 hX21_ vs H1 F1 α1 x1 S1 o1 => ?_) fun _ _ h => h⟩
  obtain ⟨hn, h⟩ := hX21_
  have h := R.wp_bind h
  cases hz : frzs xs μ1 with
  | err c μ2 =>
   exact absurd hz (frzs_no xs μ1 c μ2)
  | bad => rw [hz] at h; exact h.elim
  | ok ts μ2 =>
   rw [hz] at h
   obtain ⟨F2, s2, n2, S2, r2⟩ := frzs_ok S1.st o1 hz
   refine ⟨small_len hn o1 hl, fun p hp => ?_⟩
   have g : Grow F2 H1 (upd F2 p (.tup vs)) (upd H1 p (.tup vs)) := Grow.new hp
   refine h _ _ (upd F2 p (.tup vs)) α1 (x1.trans ((Ex.of_ne s2 n2).trans (g.ex S2.ext))) ((S1.of s2 (List.prefix_refl _) S2).grow g) ?_
   show Rep X.K _ (.tup ts) _
   rw [Rep]
   exact ⟨p, vs, rfl, SqT.of upd_same, RepL.mono (g.same S2.ext) _ _ r2⟩
noncomputable def tF (X : Cx) (d : D) : TE := fun σ H Q => ∃ F α e μ, Sim X.K F α e μ σ H ∧ (d e μ).wp (fun x μ' => ∃ t, x = .val t ∧
 ∀ p H' F' α', Ex F α H F' α' H' → Sim X.K F' α' e μ' σ H' → H p = none → F' p = none → p ∉ α' → CellOk X.K F' H' p t → Q (.ref p) H') (XPost X F α H e)
noncomputable def CF (X : Cx) (e : Expr) (d : D) : Prop := PE X e (tF X d) ∧ ∀ e μ x μ', d e μ = .ok x μ' → ∃ t, x = .val t
theorem R.wp_val {P : SV → Store → Prop} {r : R SV} {E : T → Store → Prop} (h : r.wp P E) : r.wp (fun x μ => r = .ok x μ ∧ P x μ) E := by
 cases r with
 | ok a μ => exact ⟨rfl, h⟩
 | err c μ => exact h
 | bad => exact h
theorem ice_read {σ : St} {H : Hp} {Q : VK} (h2 : ∀ e μ x μ', da e μ = .ok x μ' → ∃ t, x = .val t) (h : tD X da σ H Q) : tF X da σ H Q := by
 obtain ⟨F, α, e, μ, S, hd⟩ := h
 refine ⟨F, α, e, μ, S, (R.wp_val hd).mono (fun x μ' hX11_ => ?_) fun _ _ h => h⟩
 obtain ⟨hx, post⟩ := hX11_
 obtain ⟨t, rfl⟩ := h2 e μ x μ' hx
 refine ⟨t, rfl, fun p H1 F1 α1 x1 S1 h0 hp hn c => ?_⟩
 obtain ⟨o, ho⟩ := c.there
 have s2 : Same F1 (upd F1 p o) := fun b z hz => by
  rw [upd_ne (fun q => by subst q; rw [hp] at hz; cases hz)]; exact hz
 have st : StOk X.K (upd F1 p o) α1 μ' H1 := by
  refine ⟨fun b z hz => ?_, S1.st.len, S1.st.nd, S1.st.there, fun k b u a' h1 h2 => ?_⟩
  ·by_cases eb : b = p
   ·subst eb; rw [upd_same] at hz; cases hz; exact ho
   ·rw [upd_ne eb] at hz; exact S1.st.ext b z hz
  ·have na : a' ≠ p := fun q => by subst q; exact hn (List.mem_of_getElem? h2)
   obtain ⟨c1, c2⟩ := S1.st.cell k b u a' h1 h2
   refine ⟨fun hb => ⟨by rw [upd_ne na]; exact (c1 hb).1, ?_⟩, fun hb => Rep.mono s2 _ _ (c2 hb)⟩
   have d2 := (c1 hb).2
   cases u with
   | lst ts => obtain ⟨vs, w1, w2⟩ := d2; exact ⟨vs, w1, RepL.mono s2 _ _ w2⟩
   | dct ts => obtain ⟨vs, w1, w2⟩ := d2; exact ⟨vs, w1, RepD.mono s2 _ _ w2⟩
   | _ => exact d2.elim
 refine post _ _ (upd F1 p o) α1 (x1.ice h0 hp) (S1.of s2 (List.prefix_refl _) st) ?_
 show Rep X.K _ t _
 cases t with
 | lst ts => obtain ⟨vs, w1, w2⟩ := c; rw [w1] at ho; cases ho; rw [Rep]; exact ⟨p, vs, rfl, SqL.of upd_same, RepL.mono s2 _ _ w2⟩
 | dct ts => obtain ⟨vs, w1, w2⟩ := c; rw [w1] at ho; cases ho; rw [Rep]; exact ⟨p, vs, rfl, upd_same, RepD.mono s2 _ _ w2⟩
 | _ => exact c.elim
theorem CF.ce (h : CF X a da) : CE X a da := PE.imp h.1 fun σ H Q q => ice_read h.2 q
theorem cell_read {σ : St} {H : Hp} {Q : VK} (h2 : ∀ e μ x μ', da e μ = .ok x μ' → ∃ t, x = .val t) (h : tD X (dCell da) σ H Q) : tF X da σ H Q := by
 obtain ⟨F, α, e, μ, S, hd⟩ := h
 rw [dCell_is] at hd
 refine ⟨F, α, e, μ, S, (R.wp_val (R.wp_bind hd)).mono (fun x μ1 hX11_ => ?_) fun _ _ h => h⟩
 obtain ⟨hx, post⟩ := hX11_
 obtain ⟨t, rfl⟩ := h2 e μ x μ1 hx
 refine ⟨t, rfl, fun p H1 F1 α1 x1 S1 h0 hp hn c => ?_⟩
 obtain ⟨o, ho⟩ := c.there
 have hend : ∀ {k : Nat} {a : Addr}, (α1 ++ [p])[k]? = some a → (k < α1.length ∧ α1[k]? = some a) ∨ (k = α1.length ∧ a = p) := fun {k a} h => by
  by_cases hk : k < α1.length
  ·rw [List.getElem?_append_left hk] at h; exact .inl ⟨hk, h⟩
  ·rw [List.getElem?_append_right (by lia)] at h
   by_cases h0 : k - α1.length = 0
   ·rw [h0] at h; simp at h; exact .inr ⟨by lia, h.symm⟩
   ·rw [List.getElem?_eq_none (by simp; lia)] at h; cases h
 have st : StOk X.K F1 (α1 ++ [p]) (μ1 ++ [(true, t)]) H1 := by
  refine ⟨S1.st.ext, by simp [S1.st.len], ?_, fun k a h => ?_, fun k b u a h1 h2 => ?_⟩
  ·rw [List.nodup_append]
   refine ⟨S1.st.nd, by simp, fun a ha b hb => ?_⟩
   simp at hb
   subst hb
   exact fun q => hn (by rw [← q]; exact ha)
  ·rcases hend h with ⟨_, g⟩ | ⟨_, rfl⟩
   ·exact S1.st.there k a g
   ·exact ⟨o, ho⟩
  ·rcases hend h2 with ⟨hk, g⟩ | ⟨hk, rfl⟩
   ·rw [List.getElem?_append_left (by rw [← S1.st.len]; exact hk)] at h1
    exact S1.st.cell k b u a h1 g
   ·rw [hk, S1.st.len] at h1
    simp at h1
    obtain ⟨rfl, rfl⟩ := h1
    exact ⟨fun _ => ⟨hp, c⟩, fun z => (by cases z)⟩
 refine post _ _ F1 (α1 ++ [p]) (x1.more h0) (S1.of (Same.refl _) (List.prefix_append _ _) st) ⟨p, ?_, rfl⟩
 rw [List.getElem?_append_right (by rw [S1.st.len]; exact Nat.le_refl _), S1.st.len]
 simp
theorem CF.cell (h : CF X a da) : CE X a (dCell da) := PE.imp h.1 fun σ H Q q => cell_read h.2 q
theorem not_mem_of_none {K : PySem.W.Frag} {F H : Hp} {α : List Addr} {μ : Store} {p : Addr} (S : StOk K F α μ H) (h : H p = none) : p ∉ α := fun hm => by
 obtain ⟨k, hk⟩ := List.mem_iff_getElem?.mp hm
 obtain ⟨o, ho⟩ := S.there k p hk
 rw [h] at ho; cases ho
theorem StOk.lay {K : PySem.W.Frag} {F H : Hp} {α : List Addr} {μ : Store} {p : Addr} {o : HO} (S : StOk K F α μ H) (h : H p = none) : StOk K F α μ (upd H p o) := by
 have hup : ∀ c z, H c = some z → (upd H p o) c = some z := fun c z hz => by
  rw [upd_ne (fun q => by subst q; rw [h] at hz; cases hz)]; exact hz
 refine ⟨fun a z hz => hup _ _ (S.ext a z hz), S.len, S.nd, fun k a g => ?_, fun k b u a h1 h2 => ?_⟩
 ·obtain ⟨z, hz⟩ := S.there k a g
  exact ⟨z, hup _ _ hz⟩
 ·obtain ⟨c1, c2⟩ := S.cell k b u a h1 h2
  refine ⟨fun hb => ⟨(c1 hb).1, ?_⟩, c2⟩
  have d2 := (c1 hb).2
  cases u with
  | lst ts => obtain ⟨vs, w1, w2⟩ := d2; exact ⟨vs, hup _ _ w1, w2⟩
  | dct ts => obtain ⟨vs, w1, w2⟩ := d2; exact ⟨vs, hup _ _ w1, w2⟩
  | _ => exact d2.elim
theorem cf_lst {es : List Expr} {ds : List D} (h : CA X es ds) (hl : ds.length ≤ 1000 := by decide) : CF X (.List es pos) (dLst ds) :=
 ⟨PE.imp (pe_lst h) fun σ H Q hX11_ => by
  obtain ⟨F, α, e, μ, S, h⟩ := hX11_
  refine ⟨F, α, e, μ, S, (dArgs_wp_len (R.wp_bind h)).mono (fun xs μ1 hX21_ vs H1 F1 α1 x1 S1 o1 => ?_) fun _ _ h => h⟩
  obtain ⟨hn, h⟩ := hX21_
  have h := R.wp_bind h
  cases hz : frzs xs μ1 with
  | err c μ2 =>
   exact absurd hz (frzs_no xs μ1 c μ2)
  | bad => rw [hz] at h; exact h.elim
  | ok ts μ2 =>
   rw [hz] at h
   obtain ⟨t, e1, post⟩ := h
   cases e1
   obtain ⟨F2, s2, n2, S2, r2⟩ := frzs_ok S1.st o1 hz
   refine ⟨small_len hn o1 hl, fun p hp => ?_⟩
   exact post p _ F2 α1 (x1.trans ((Ex.of_ne s2 n2).trans (Ex.lay hp))) (S1.of s2 (List.prefix_refl _) (S2.lay hp)) (x1.was S1.st hp) (S2.ext.free hp) (not_mem_of_none S2 hp) ⟨vs, upd_same, r2⟩,
 fun e μ x μ' h => by
  unfold dLst at h
  obtain ⟨xs, μ1, hx, h⟩ := R.bind_eq_ok h
  obtain ⟨ts, μ2, hz, h⟩ := R.bind_eq_ok h
  cases h
  exact ⟨_, rfl⟩⟩
theorem dUn_val {f : T → Option T} {e : Slots} {μ μ' : Store} {x : SV} (h : dUn f da e μ = .ok x μ') : ∃ t, x = .val t := by
 unfold dUn at h
 obtain ⟨x, μ1, hx, h⟩ := R.bind_eq_ok h
 obtain ⟨h9, rfl⟩ := R.lift_eq_ok h
 obtain ⟨t, w', ht, h, rfl⟩ := ap1_eq h9
 exact ⟨_, rfl⟩
theorem args1 {σ : St} {H : Hp} {Q : List V → Hp → Prop} (h : tD X da σ H fun v H' => Q [v] H') : tDA X [da] σ H Q := by
 obtain ⟨F, α, e, μ, S, h⟩ := h
 refine ⟨F, α, e, μ, S, ?_⟩
 rw [dArgs_cons]
 cases q : da e μ with
 | err c μ1 => rw [q] at h; exact h
 | bad => rw [q] at h; exact h
 | ok x μ1 =>
  rw [q] at h
  intro vs H1 F1 α1 x1 S1 o1
  cases o1 with
  | cons o1 o2 => cases o2; exact h _ H1 F1 α1 x1 S1 o1
theorem call1 {r : List V → Hp → VK → Prop} {f : T → Option T} (hs : CallSem1 X.K r f) (σ : St) (H : Hp) (Q : VK) (h : tD X (dUn f da) σ H Q) : tCB r (tDA X [da]) σ H Q :=
 args1 (one (r := fun v H Q => r [v] H Q) hs σ H Q h)
theorem call1F {r : List V → Hp → VK → Prop} {f : T → Option T} (hs : CallSemF X.K r f) (σ : St) (H : Hp) (Q : VK) (h : tF X (dUn f da) σ H Q) : tCB r (tDA X [da]) σ H Q := by
 refine args1 ?_
 obtain ⟨F, α, e, μ, S, h⟩ := h
 refine ⟨F, α, e, μ, S, ?_⟩
 refine (R.wp_bind h).mono (fun x μ1 h v H1 F1 α1 x1 S1 o1 => ?_) fun _ _ h => h
 obtain ⟨w, h9, t', e1, post⟩ := R.wp_lift h
 obtain ⟨t, w', ht, h, e2⟩ := ap1_eq h9
 subst e1
 cases e2
 exact hs F1 H1 _ t _ Q S1.st.ext (now_of S1.st o1 ht) h fun p o hp c =>
  post p _ F1 α1 (x1.trans (Ex.lay hp)) (S1.of (Same.refl _) (List.prefix_refl _) (S1.st.lay hp)) (x1.was S1.st hp) (S1.st.ext.free hp) (not_mem_of_none S1.st hp) c
theorem call2 {r : List V → Hp → VK → Prop} {f : T → T → Option T} (hs : CallSem2 X.K r f) (σ : St) (H : Hp) (Q : VK) (h : tD X (dBin f da db) σ H Q) : tCB r (tDA X [da, db]) σ H Q := by
 obtain ⟨F, α, e, μ, S, h⟩ := h
 refine ⟨F, α, e, μ, S, ?_⟩
 rw [dArgs_cons]
 cases q : da e μ with
 | err c μ1 => rw [dBin_is, q] at h; exact h
 | bad => rw [dBin_is, q] at h; exact h
 | ok x μ1 =>
  rw [dBin_is, q] at h
  rw [R.bind_ok] at h ⊢
  rw [dArgs_cons]
  cases q2 : db e μ1 with
  | err c μ2 => rw [q2] at h; exact h
  | bad => rw [q2] at h; exact h
  | ok y μ2 =>
   rw [q2] at h
   intro vs H1 F1 α1 x1 S1 o1
   cases o1 with
   | cons o1 o2 =>
    cases o2 with
    | cons o2 o3 =>
     cases o3
     obtain ⟨w, h9, post⟩ := R.wp_lift h
     obtain ⟨t, u, w', ht, hu, h, rfl⟩ := ap2_eq h9
     exact hs F1 H1 _ _ t u w' Q S1.st.ext (now_of S1.st o1 ht) (now_of S1.st o2 hu) h fun v' H' F' g rp =>
      post v' H' F' α1 (x1.trans (g.ex S1.st.ext)) (S1.grow g) rp
end
end Fw
namespace Fw
open PySem L2
theorem asB_eq {x : SV} {k : Bool} (h : asB x = some k) : x = .val (.bl k) := by
 cases x with
 | val t => cases t <;> first | (cases h; rfl) | cases h
 | cel j => cases h
 | box xs => cases h
theorem wp_test {β : Type} {r : R SV} {f : Bool → Store → R β} {Q : β → Store → Prop} {E : T → Store → Prop} (h : (r.bind fun y μ1 => (R.lift (asB y) μ1).bind f).wp Q E) :
  r.wp (fun x μ => ∃ k, x = .val (.bl k) ∧ (f k μ).wp Q E) E := (R.wp_bind h).mono (fun x μ h => by
 obtain ⟨k, hk, h⟩ := R.wp_lift (R.wp_bind h)
 exact ⟨k, asB_eq hk, h⟩) fun _ _ h => h
noncomputable def CW (X : Cx) (e : Expr) (d : D) : Prop := PW X e (tDT X d)
theorem PW.imp {X : Cx} {e : Expr} {t t' : TT} (h : PW X e t) (i : ∀ σ H Q, t' σ H Q → t σ H Q) : PW X e t' := fun whole pins s σ H Q I q => h whole pins s σ H Q I (i σ H Q q)
theorem tD_of_tDT {X : Cx} {d : D} {σ : St} {H : Hp} {Q : Bool → Hp → Prop} (h : tDT X d σ H Q) : tD X d σ H fun x H' => ∃ k, x = .bl k ∧ Q k H' := by
 obtain ⟨F, α, e, μ, S, h⟩ := h
 refine ⟨F, α, e, μ, S, h.mono (fun x μ' hX11_ v H' F' α' y S' o => ?_) fun _ _ h => h⟩
 obtain ⟨b, hb, post⟩ := hX11_
 subst hb
 exact ⟨b, Rep.of_bl (K := X.K) (F := F') o, post H' F' α' y S'⟩
section
variable {X : Cx} {a b c : Expr} {da db dc : D} {pos : Pos} {rest : List Expr}
theorem ct_val (h : CE X a da) (he : ∀ whole, isTrue a X.env whole = (do let v ← whole; standAt a.pos; holding [v] (truthy v)) := by intro _; rfl) : CT X a da :=
 PT.imp (pt_val h he) fun σ H Q q => tD_of_tDT q
theorem ct_cmp {op : CmpOp} {r : R2} {f : T → T → Option T} (ho : OpR X (compareOp op) r) (hs : OpSem X.K r f) (hm : behindInMarks op b = false) (ha : CE X a da) (hb : CE X b db) : CT X (.Compare a [op] [b] pos) (dBin f da db) :=
 PT.imp (pt_cmpR ho ha hb hm) fun σ H Q q => two hs σ H _ (tD_of_tDT q)
theorem ct_not (h : CT X a da) : CT X (.UnaryOp .Not a pos) (dNot da) := PT.imp (pt_not h) fun σ H Q hX11_ => by
 obtain ⟨F, α, e, μ, S, h⟩ := hX11_
 refine ⟨F, α, e, μ, S, (wp_test h).mono (fun x μ1 ⟨k, hx, b, hb, h⟩ => ⟨k, hx, ?_⟩) fun _ _ h => h⟩
 cases hb
 exact h
theorem cw_one_and (h : CT X a da) : CW X (.BoolOp .And [a] pos) da := pw_and1 h
theorem cw_one_or (h : CT X a da) : CW X (.BoolOp .Or [a] pos) da := pw_or1 h
theorem CW.ct (h : CW X a da) : CT X a da := PW.pt h
theorem cw_and (ha : CT X a da) (hb : CW X (.BoolOp .And (b :: rest) pos) db) : CW X (.BoolOp .And (a :: b :: rest) pos) (dAnd da db) :=
 PW.imp (pw_and ha hb) fun σ H Q hX11_ => by
  obtain ⟨F, α, e, μ, S, h⟩ := hX11_
  refine ⟨F, α, e, μ, S, (wp_test h).mono (fun x μ1 ⟨k, hx, h⟩ => ⟨k, hx, fun H1 F1 α1 x1 S1 => ?_⟩) fun _ _ h => h⟩
  cases k with
  | true =>
   rw [if_pos rfl] at h ⊢
   exact ⟨F1, α1, e, μ1, S1, h.mono (fun y μ2 ⟨b, hb, h⟩ => ⟨b, hb, fun H2 F2 α2 x2 S2 => h H2 F2 α2 (x1.trans x2) S2⟩) fun _ _ h => h.mono x1⟩
  | false =>
   rw [if_neg Bool.false_ne_true] at h ⊢
   obtain ⟨b, hb, h⟩ := h
   cases hb
   exact h H1 F1 α1 x1 S1
theorem cw_or (ha : CT X a da) (hb : CW X (.BoolOp .Or (b :: rest) pos) db) : CW X (.BoolOp .Or (a :: b :: rest) pos) (dOr da db) :=
 PW.imp (pw_or ha hb) fun σ H Q hX11_ => by
  obtain ⟨F, α, e, μ, S, h⟩ := hX11_
  refine ⟨F, α, e, μ, S, (wp_test h).mono (fun x μ1 ⟨k, hx, h⟩ => ⟨k, hx, fun H1 F1 α1 x1 S1 => ?_⟩) fun _ _ h => h⟩
  cases k with
  | true =>
   rw [if_pos rfl] at h ⊢
   obtain ⟨b, hb, h⟩ := h
   cases hb
   exact h H1 F1 α1 x1 S1
  | false =>
   rw [if_neg Bool.false_ne_true] at h ⊢
   exact ⟨F1, α1, e, μ1, S1, h.mono (fun y μ2 ⟨b, hb, h⟩ => ⟨b, hb, fun H2 F2 α2 x2 S2 => h H2 F2 α2 (x1.trans x2) S2⟩) fun _ _ h => h.mono x1⟩
theorem ce_one {op} (h : CE X a da) : CE X (.BoolOp op [a] pos) da := pe_one h
theorem ce_and (ha : CE X a da) (hb : CE X (.BoolOp .And (b :: rest) pos) db) : CE X (.BoolOp .And (a :: b :: rest) pos) (dAnd da db) :=
 PE.imp (pe_and ha hb) fun σ H Q hX11_ => by
  obtain ⟨F, α, e, μ, S, h⟩ := hX11_
  refine ⟨F, α, e, μ, S, (wp_test h).mono (fun x μ1 hX21_ v H1 F1 α1 x1 S1 o1 => ?_) fun _ _ h => h⟩
  obtain ⟨k, hx, h⟩ := hX21_
  subst hx
  refine ⟨k, Rep.of_bl (K := X.K) (F := F1) o1, ?_⟩
  cases k with
  | true =>
   rw [if_pos rfl] at h ⊢
   exact ⟨F1, α1, e, μ1, S1, h.mono (fun y μ2 h v H2 F2 α2 x2 S2 o2 => h v H2 F2 α2 (x1.trans x2) S2 o2) fun _ _ h => h.mono x1⟩
  | false =>
   rw [if_neg Bool.false_ne_true] at h ⊢
   exact h _ H1 F1 α1 x1 S1 (Rep.bl' (K := X.K) (F := F1) _)
theorem ce_or (ha : CE X a da) (hb : CE X (.BoolOp .Or (b :: rest) pos) db) : CE X (.BoolOp .Or (a :: b :: rest) pos) (dOr da db) :=
 PE.imp (pe_or ha hb) fun σ H Q hX11_ => by
  obtain ⟨F, α, e, μ, S, h⟩ := hX11_
  refine ⟨F, α, e, μ, S, (wp_test h).mono (fun x μ1 hX21_ v H1 F1 α1 x1 S1 o1 => ?_) fun _ _ h => h⟩
  obtain ⟨k, hx, h⟩ := hX21_
  subst hx
  refine ⟨k, Rep.of_bl (K := X.K) (F := F1) o1, ?_⟩
  cases k with
  | true =>
   rw [if_pos rfl] at h ⊢
   exact h _ H1 F1 α1 x1 S1 (Rep.bl' (K := X.K) (F := F1) _)
  | false =>
   rw [if_neg Bool.false_ne_true] at h ⊢
   exact ⟨F1, α1, e, μ1, S1, h.mono (fun y μ2 h v H2 F2 α2 x2 S2 o2 => h v H2 F2 α2 (x1.trans x2) S2 o2) fun _ _ h => h.mono x1⟩
theorem ce_not (ha : CE X a da) : CE X (.UnaryOp .Not a pos) (dNot da) := PE.imp (pe_not ha) fun σ H Q hX11_ => by
 obtain ⟨F, α, e, μ, S, h⟩ := hX11_
 refine ⟨F, α, e, μ, S, (wp_test h).mono (fun x μ1 hX21_ v H1 F1 α1 x1 S1 o1 => ?_) fun _ _ h => h⟩
 obtain ⟨k, hx, h⟩ := hX21_
 subst hx
 refine ⟨k, Rep.of_bl (K := X.K) (F := F1) o1, ?_⟩
 exact h _ H1 F1 α1 x1 S1 (Rep.bl' (K := X.K) (F := F1) _)
end
noncomputable def PostS (X : Cx) (F : Hp) (α : List Addr) (H : Hp) (D : Ends) : RS → Prop
 | .nx e' μ' => ∀ σ' H' F' α', Ex F α H F' α' H' → Sim X.K F' α' e' μ' σ' H' → D.nx σ' H'
 | .rt x μ' => ∀ v H' F' α', Ex F α H F' α' H' → StOk X.K F' α' μ' H' → SvOk X.K F' α' v x → D.rt v H'
 | .bk e' μ' => ∀ σ' H' F' α', Ex F α H F' α' H' → Sim X.K F' α' e' μ' σ' H' → D.bk σ' H'
 | .ct e' μ' => ∀ σ' H' F' α', Ex F α H F' α' H' → Sim X.K F' α' e' μ' σ' H' → D.ct σ' H'
 | .err c e' μ' => XPost X F α H e' c μ'
 | .bad => False
theorem PostS.mono {X : Cx} {F F' H H' : Hp} {α α' : List Addr} {D : Ends} {r : RS} (x : Ex F α H F' α' H') (h : PostS X F α H D r) : PostS X F' α' H' D r := by
 cases r with
 | nx e μ => exact fun σ H F2 α2 x2 => h σ H F2 α2 (x.trans x2)
 | rt y μ => exact fun σ H F2 α2 x2 => h σ H F2 α2 (x.trans x2)
 | bk e μ => exact fun σ H F2 α2 x2 => h σ H F2 α2 (x.trans x2)
 | ct e μ => exact fun σ H F2 α2 x2 => h σ H F2 α2 (x.trans x2)
 | err c e μ => exact XPost.mono x h
 | bad => exact h
noncomputable def tDS (X : Cx) (d : DS) : TS := fun D σ H => ∃ F α e μ, Sim X.K F α e μ σ H ∧ PostS X F α H D (d e μ)
noncomputable def CS (X : Cx) (st : Stmt) (d : DS) : Prop := PS X st (tDS X d)
noncomputable def CSs (X : Cx) (st : List Stmt) (d : DS) : Prop := PSs X st (tDS X d)
theorem PostS.toS {α' : Type} {X : Cx} {F H : Hp} {α : List Addr} {D : Ends} {x : R α'} {e : Slots} {f : α' → Store → RS} (h : PostS X F α H D (x.toS e f)) : x.wp (fun a μ => PostS X F α H D (f a μ)) (XPost X F α H e) := by
 cases x with
 | ok a μ => exact h
 | err c μ => exact h
 | bad => exact h
theorem PostS.lift {α' : Type} {X : Cx} {F H : Hp} {α : List Addr} {D : Ends} {o : Option α'} {μ : Store} {e : Slots} {f : α' → Store → RS} (h : PostS X F α H D ((R.lift o μ).toS e f)) : ∃ a, o = some a ∧ PostS X F α H D (f a μ) := R.wp_lift h.toS
theorem PostS.asB {X : Cx} {F H : Hp} {α : List Addr} {D : Ends} {x : R SV} {e : Slots} {f : Bool → Store → RS} (h : PostS X F α H D (x.toS e fun y μ1 => (R.lift (Fw.asB y) μ1).toS e f)) : x.wp (fun y μ1 => ∃ k, y = .val (.bl k) ∧ PostS X F α H D (f k μ1)) (XPost X F α H e) :=
 h.toS.mono (fun y μ h => by
  obtain ⟨k, hk, h⟩ := h.lift
  exact ⟨k, asB_eq hk, h⟩) fun _ _ h => h
section
variable {X : Cx} {st : Stmt} {sts : List Stmt} {d d1 d2 : DS} {e : Expr} {de : D} {pos : Pos}
theorem css_nil : CSs X [] sNil := PSs.imp pss_nil fun D σ H ⟨F, α, e, μ, S, h⟩ => h σ H F α Ex.refl S
theorem css_one (h : CS X st d) : CSs X [st] d := pss_one h
theorem css_cons (h1 : CS X st d1) (h2 : CSs X sts d2) : CSs X (st :: sts) (sSeq d1 d2) := PSs.imp (pss_cons h1 h2) fun D σ H hX11_ => by
 obtain ⟨F, α, e, μ, S, h⟩ := hX11_
 refine ⟨F, α, e, μ, S, ?_⟩
 unfold sSeq at h
 cases q : d1 e μ with
 | nx e1 μ1 =>
  rw [q] at h
  exact fun σ' H' F' α' x S' => ⟨F', α', e1, μ1, S', h.mono x⟩
 | rt x μ1 => rw [q] at h; exact h
 | bk e1 μ1 => rw [q] at h; exact h
 | ct e1 μ1 => rw [q] at h; exact h
 | err c e1 μ1 => rw [q] at h; exact h
 | bad => rw [q] at h; exact h
theorem cs_ret (he : CE X e de) : CS X (.Return (some e) pos) (sRet de) := PS.imp (ps_ret he) fun D σ H ⟨F, α, e, μ, S, h⟩ =>
 ⟨F, α, e, μ, S, (PostS.toS h).mono (fun x μ1 h v H1 F1 α1 x1 S1 o1 => h v H1 F1 α1 x1 S1.st o1) fun _ _ h => h⟩
theorem slot_set {e : Slots} {i j : Nat} {x y : SV} (h : slot (e.set i (some x)) j = some y) : (j = i ∧ y = x) ∨ slot e j = some y := by
 unfold slot at h
 by_cases q : i = j
 ·subst q
  by_cases hl : i < e.length
  ·rw [List.getElem?_set_self hl] at h
   cases h
   exact .inl ⟨rfl, rfl⟩
  ·rw [List.getElem?_eq_none (by rw [List.length_set]; omega)] at h
   cases h
 ·rw [List.getElem?_set_ne q] at h
  exact .inr h
theorem Sim.set {K : PySem.W.Frag} {F H : Hp} {α : List Addr} {e : Slots} {μ : Store} {σ : St} {v : V} {x : SV} {i : Nat} (S : Sim K F α e μ σ H) (o : SvOk K F α v x) : Sim K F α (e.set i (some x)) μ (σ.set i (some v)) H := by
 refine ⟨S.st, fun j y h => ?_, by rw [List.length_set, List.length_set, S.len]⟩
 by_cases q : i = j
 ·subst q
  have hl : i < e.length := by
   unfold slot at h
   by_cases hl : i < e.length
   ·exact hl
   ·rw [List.getElem?_eq_none (by rw [List.length_set]; omega)] at h
    cases h
  have hy : y = x := by
   unfold slot at h
   rw [List.getElem?_set_self hl] at h
   cases h; rfl
  subst hy
  exact ⟨v, by rw [List.getElem?_set_self (by rw [← S.len]; exact hl)], o⟩
 ·rcases slot_set h with ⟨rfl, _⟩ | h
  ·exact absurd rfl q
  ·obtain ⟨w, h1, h2⟩ := S.sl j y h
   exact ⟨w, by rw [List.getElem?_set_ne q]; exact h1, h2⟩
theorem cs_set (i : Nat) {x : Str} {pos' : Pos} (hN : X.N.Nodup) (he : CE X e de) (hi : X.N[i]? = some x := by rfl) (hx : Loc X.env.scope x := by first | exact Or.inl rfl | exact Or.inr rfl) (hs : swapsWith e (some (.Name x pos')) pos.line X.env = pure false := by rfl)
  (hf : X.fn x = true ∨ X.env.scope.names.lookup x = some .local := by first | exact .inl rfl | exact .inr rfl | assumption) : CS X (.Assign [.Name x pos'] e pos) (sSet i de) :=
 PS.imp (ps_set hN hi hx he hs hf) fun D σ H ⟨F, α, e, μ, S, h⟩ =>
  ⟨F, α, e, μ, S, (PostS.toS h).mono (fun x μ1 h v H1 F1 α1 x1 S1 o1 => h _ H1 F1 α1 x1 (S1.set o1)) fun _ _ h => h⟩
theorem cs_if {c : Expr} {as bs : List Stmt} {dc : D} (hc : CT X c dc) (ha : CSs X as d1) (hb : CSs X bs d2) : CS X (.If c as bs pos) (sIf dc d1 d2) := PS.imp (ps_if hc ha hb) fun D σ H hX11_ => by
 obtain ⟨F, α, e, μ, S, h⟩ := hX11_
 refine ⟨F, α, e, μ, S, (PostS.asB h).mono (fun x μ1 ⟨k, hk, h⟩ => ⟨k, hk, fun H1 F1 α1 x1 S1 => ?_⟩) fun _ _ h => h⟩
 cases k with
 | true => exact ⟨F1, α1, e, μ1, S1, PostS.mono x1 h⟩
 | false => exact ⟨F1, α1, e, μ1, S1, PostS.mono x1 h⟩
theorem cs_bad : CS X st sBad := PS.imp ps_never fun D σ H ⟨F, α, e, μ, S, h⟩ => h
end
end Fw
namespace Fw
open PySem PySem.Spec PyProof.Rows L2
noncomputable def ItOk (K : PySem.W.Frag) (F : Hp) (α : List Addr) (J : It) (W : Wk) : Prop := ∀ F2 α2 μ2 H2, Same F F2 → α <+: α2 → StOk K F2 α2 μ2 H2 → W.same μ2 →
 (∀ i t, W.items[i]? = some t → J.go i H2 ∧ ∀ x H3, J.yld i H2 x H3 → ∃ F3, Grow F2 H2 F3 H3 ∧ Rep K F3 t x) ∧ J.stop W.items.length H2
noncomputable def tDI (X : Cx) (d : DI) : TI := fun σ H R => ∃ F α e μ, Sim X.K F α e μ σ H ∧ (d e μ).wp (fun W μ' =>
 ∀ J H' F' α', Ex F α H F' α' H' → Sim X.K F' α' e μ' σ H' → ItOk X.K F' α' J W → R J H') (XPost X F α H e)
noncomputable def CI (X : Cx) (tg e : Expr) (d : DI) : Prop := PI X tg e (tDI X d)
theorem PI.imp {X : Cx} {tg e : Expr} {t t' : TI} (h : PI X tg e t) (i : ∀ σ H R, t' σ H R → t σ H R) : PI X tg e t' := fun pins s σ H R I q => h pins s σ H R I (i σ H R q)
noncomputable def iBoth (K : PySem.W.Frag) (tl : TE) : TI := fun σ H R => tl σ H fun x H1 => ∃ a, x = .ref a ∧ (((∃ xs, SqL K H1 a xs) ∧ R (Itl K a) H1) ∨ ((∃ xs, SqT K H1 a xs) ∧ R (Itt K a) H1))
section
variable {X : Cx} {tg : Expr}
theorem pi_both {l : Expr} {tl : TE} (hl : PE X l tl) : PI X tg l (iBoth X.K tl) := by
 intro pins s σ H R I h
 refine thn (hl pins s σ H _ I h) fun v s1 hX11_ => ?_
 obtain ⟨x, H1, I1, r1, q1⟩ := hX11_
 obtain ⟨a, e, q⟩ := q1
 subst e
 cases r1
 rcases q with ⟨⟨xs, hq⟩, q⟩ | ⟨⟨xs, hq⟩, q⟩
 ·obtain ⟨its, rv, p, hz⟩ := I1.list hq
  refine wpAny_pyIter_list p.isList ?_
  refine ⟨s1.heap.objs.size, [s1.heap.objs.size], _, _, H1, rfl, I1.kept (t' := s1.toks) fun b o e => Heap.get?_push_of_some _ e, turn_list a _, ⟨_, Heap.get?_push_size _ rfl, rfl, rfl⟩, fun b hb => ?_, q⟩
  have e : b = s1.heap.objs.size := by simpa using hb
  subst e
  exact I1.fpOk (Nat.le_refl _) (I1.hok.fresh (Nat.le_refl _))
 ·obtain ⟨its, rv, p, hz⟩ := I1.tuple hq
  refine wpAny_pyIter_tuple (show s1.heap.IsTuple a its.toArray from p) ?_
  refine ⟨s1.heap.objs.size, [s1.heap.objs.size], _, _, H1, rfl, I1.kept (t' := s1.toks) fun b o e => Heap.get?_push_of_some _ e, turn_tuple a _, ⟨_, Heap.get?_push_size _ rfl, rfl, rfl⟩, fun b hb => ?_, q⟩
  have e : b = s1.heap.objs.size := by simpa using hb
  subst e
  exact I1.fpOk (Nat.le_refl _) (I1.hok.fresh (Nat.le_refl _))
theorem ci_seq {a : Expr} {da : D} (h : CE X a da) : CI X tg a (iSeq da) := PI.imp (pi_both h) fun σ H R0 hX11_ => by
 obtain ⟨F, α, e, μ, S, h⟩ := hX11_
 refine ⟨F, α, e, μ, S, (R.wp_bind h).mono (fun x μ1 h v H1 F1 α1 x1 S1 o1 => ?_) fun _ _ h => h⟩
 obtain ⟨ts, ht, post⟩ := R.wp_lift (R.wp_bind h)
 obtain ⟨t, hr, ht⟩ := Option.bind_eq_some_iff.mp ht
 have n1 := now_of S1.st o1 hr
 cases t with
 | lst us =>
  cases ht
  obtain ⟨a, vs, rfl, hq, hl⟩ := n1
  refine ⟨a, rfl, .inl ⟨⟨vs, hq⟩, post _ H1 F1 α1 x1 S1 fun F2 α2 μ2 H2 s2 p2 S2 same => ?_⟩⟩
  obtain ⟨a', vs', e1, hq2, hl2⟩ := now_of S2 (o1.mono s2 p2) ((show rd μ2 x = rd μ1 x from same).trans hr)
  cases e1
  refine ⟨fun i t hi => ?_, ⟨vs', hq2, by rw [← hl2.length]; exact Nat.le_refl _⟩⟩
  obtain ⟨v, hv, rv⟩ := hl2.get hi
  exact ⟨⟨vs', v, hq2, hv⟩, fun y H3 hX21_ => by
   obtain ⟨e3, hy⟩ := hX21_
   subst e3
   have := hy vs' hq2
   rw [hv] at this; cases this
   exact ⟨F2, Grow.refl, rv⟩⟩
 | tup us =>
  cases ht
  obtain ⟨a, vs, rfl, hq, hl⟩ := n1
  refine ⟨a, rfl, .inr ⟨⟨vs, Same.seqT S1.st.ext hq⟩, post _ H1 F1 α1 x1 S1 fun F2 α2 μ2 H2 s2 p2 S2 same => ?_⟩⟩
  obtain ⟨a', vs', e1, hq2, hl2⟩ := now_of S2 (o1.mono s2 p2) ((show rd μ2 x = rd μ1 x from same).trans hr)
  have hq2 := Same.seqT S2.ext hq2
  cases e1
  refine ⟨fun i t hi => ?_, ⟨vs', hq2, by rw [← hl2.length]; exact Nat.le_refl _⟩⟩
  obtain ⟨v, hv, rv⟩ := hl2.get hi
  exact ⟨⟨vs', v, hq2, hv⟩, fun y H3 hX31_ => by
   obtain ⟨e3, hy⟩ := hX31_
   subst e3
   have := hy vs' hq2
   rw [hv] at this; cases this
   exact ⟨F2, Grow.refl, rv⟩⟩
 | _ => cases ht
theorem intsT_get : ∀ {n : Nat} {lo : Int} {i : Nat} {t : T}, (intsT lo n)[i]? = some t → i < n ∧ t = .int (lo + i)
 | 0, lo, i, t, h => by simp [intsT] at h
 | n + 1, lo, 0, t, h => by
  simp [intsT] at h
  subst h
  exact ⟨Nat.succ_pos _, by simp⟩
 | n + 1, lo, i + 1, t, h => by
  have h : (intsT (lo + 1) n)[i]? = some t := by simpa [intsT] using h
  obtain ⟨h1, h2⟩ := intsT_get h
  exact ⟨Nat.succ_lt_succ h1, by rw [h2]; congr 1; omega⟩
theorem intsT_length : ∀ (n : Nat) (lo : Int), (intsT lo n).length = n
 | 0, _ => rfl
 | n + 1, lo => by rw [intsT, List.length_cons, intsT_length]
theorem itr_ok {K : PySem.W.Frag} {F : Hp} {α : List Addr} (lo : Int) (n : Nat) : ItOk K F α (Itr lo n) ⟨intsT lo n, fun _ => True⟩ := fun F2 α2 μ2 H2 s2 p2 S2 _ => by
 refine ⟨fun i t hi => ?_, ?_⟩
 ·obtain ⟨h1, rfl⟩ := intsT_get hi
  exact ⟨h1, fun x H3 hX11_ => by obtain ⟨e1, e2⟩ := hX11_; subst e1; subst e2; exact ⟨F2, Grow.refl, Rep.int' _⟩⟩
 ·show n ≤ (intsT lo n).length
  rw [intsT_length]; exact Nat.le_refl _
theorem asInt_eq {t : T} {i : Int} (h : asInt t = some i) : t = .int i := by
 cases t <;> first | (cases h; rfl) | cases h
theorem ci_range1 {a : Expr} {da : D} {p pos : Pos} (hm : X.mg "range" = none) (h : CE X a da) (hg : Gl X "range" := by rfl) (hs : starEach [a] X.env = [(false, eval a X.env)] := by rfl) : CI X tg (.Call (.Name "range" p) [a] [] pos) (iRange1 da) :=
 PI.imp (pi_range1 hg hm (ca_cons h ca_nil hs) hs) fun σ H R0 hX11_ => by
  obtain ⟨F, α, e, μ, S, h⟩ := hX11_
  refine args1 ⟨F, α, e, μ, S, (R.wp_bind h).mono (fun x μ1 h v H1 F1 α1 x1 S1 o1 => ?_) fun _ _ h => h⟩
  obtain ⟨j, ht, h⟩ := R.wp_lift (R.wp_bind h)
  obtain ⟨t, hr, ht⟩ := Option.bind_eq_some_iff.mp ht
  cases asInt_eq ht
  by_cases hb' : rngOk j = true
  ·rw [if_pos hb'] at h
   have hb := rngOk_iff hb'
   cases (now_of S1.st o1 hr).int
   exact ⟨j, rfl, hb.1, hb.2, h _ H1 F1 α1 x1 S1 (itr_ok 0 j.toNat)⟩
  ·rw [if_neg hb'] at h; exact h.elim
theorem args2 {da db : D} {σ : L2.St} {H : Hp} {Q : List V → Hp → Prop} (h : ∃ F α e μ, Sim X.K F α e μ σ H ∧ (da e μ).wp (fun x μ1 => (db e μ1).wp (fun y μ2 => ∀ v u H' F' α', Ex F α H F' α' H' → Sim X.K F' α' e μ2 σ H' → SvOk X.K F' α' v x → SvOk X.K F' α' u y → Q [v, u] H') (XPost X F α H e)) (XPost X F α H e)) : tDA X [da, db] σ H Q := by
 obtain ⟨F, α, e, μ, S, h⟩ := h
 refine ⟨F, α, e, μ, S, ?_⟩
 rw [dArgs_cons]
 cases q : da e μ with
 | err c μ1 => rw [q] at h; exact h
 | bad => rw [q] at h; exact h
 | ok x μ1 =>
  rw [q] at h
  rw [R.bind_ok, dArgs_cons]
  have h : (db e μ1).wp _ _ := h
  cases q2 : db e μ1 with
  | err c μ2 => rw [q2] at h; exact h
  | bad => rw [q2] at h; exact h
  | ok y μ2 =>
   rw [q2] at h
   intro vs H1 F1 α1 x1 S1 o1
   cases o1 with
   | cons o1 o2 =>
    cases o2 with
    | cons o2 o3 => cases o3; exact h _ _ H1 F1 α1 x1 S1 o1 o2
theorem ci_range2 {a b : Expr} {da db : D} {p pos : Pos} (hm : X.mg "range" = none) (h : CE X a da) (h' : CE X b db) (hg : Gl X "range" := by rfl) (hs : starEach [a, b] X.env = [(false, eval a X.env), (false, eval b X.env)] := by rfl) (hs2 : starEach [b] X.env = [(false, eval b X.env)] := by rfl) :
  CI X tg (.Call (.Name "range" p) [a, b] [] pos) (iRange2 da db) :=
 PI.imp (pi_range2 hg hm (ca_cons h (ca_cons h' ca_nil hs2) (by rw [hs, hs2])) hs hs2) fun σ H R0 hX11_ => by
  obtain ⟨F, α, e, μ, S, h⟩ := hX11_
  refine args2 ⟨F, α, e, μ, S, (R.wp_bind h).mono (fun x μ1 h => (R.wp_bind h).mono (fun y μ2 h v u H1 F1 α1 x1 S1 o1 o2 => ?_) fun _ _ h => h) fun _ _ h => h⟩
  obtain ⟨i, ht, h⟩ := R.wp_lift (R.wp_bind h)
  obtain ⟨t, hr, ht⟩ := Option.bind_eq_some_iff.mp ht
  cases asInt_eq ht
  obtain ⟨j, ht, h⟩ := R.wp_lift (R.wp_bind h)
  obtain ⟨t, hr2, ht⟩ := Option.bind_eq_some_iff.mp ht
  cases asInt_eq ht
  by_cases hb' : (rngOk i && rngOk j) = true
  ·rw [if_pos hb'] at h
   rw [Bool.and_eq_true] at hb'
   have hb : -(2 ^ 62) ≤ i ∧ i < 2 ^ 62 ∧ -(2 ^ 62) ≤ j ∧ j < 2 ^ 62 := ⟨(rngOk_iff hb'.1).1, (rngOk_iff hb'.1).2, (rngOk_iff hb'.2).1, (rngOk_iff hb'.2).2⟩
   cases (now_of S1.st o1 hr).int
   cases (now_of S1.st o2 hr2).int
   exact ⟨i, j, rfl, hb, h _ H1 F1 α1 x1 S1 (itr_ok i (j - i).toNat)⟩
  ·rw [if_neg hb'] at h; exact h.elim
end
noncomputable def tBd (K : PySem.W.Frag) (b : BD) : TG := fun v σ H Q => ∃ F α e μ t e', Sim K F α e μ σ H ∧ Rep K F t v ∧ b t e = some e' ∧ ∀ σ', Sim K F α e' μ σ' H → Q σ' H
noncomputable def CB (X : Cx) (tg : Expr) (b : BD) : Prop := PG X tg (tBd X.K b)
theorem PG.imp {X : Cx} {tg : Expr} {t t' : TG} (h : PG X tg t) (i : ∀ v σ H Q, t' v σ H Q → t v σ H Q) : PG X tg t' := fun pins s σ H v u Q I r q => h pins s σ H v u Q I r (i v σ H Q q)
section
variable {X : Cx} {pos : Pos}
theorem cb_name (i : Nat) {x : Str} (hN : X.N.Nodup) (hi : X.N[i]? = some x := by rfl) (hx : Loc X.env.scope x := by first | exact Or.inl rfl | exact Or.inr rfl) (hf : X.fn x = true ∨ X.env.scope.names.lookup x = some .local := by first | exact .inl rfl | exact .inr rfl | assumption) :
  CB X (.Name x pos) (bName i) := PG.imp (pg_name hN hi hx hf) fun v σ H Q hX11_ => by
 obtain ⟨F, α, e, μ, t, e', S, r, hb, q⟩ := hX11_
 cases hb
 exact q _ (S.set (x := .val t) r)
theorem cb_pair (i j : Nat) {x y : Str} {px py : Pos} {k : Nat} (hN : X.N.Nodup) (hc : X.calm = true) (hi : X.N[i]? = some x := by rfl) (hj : X.N[j]? = some y := by rfl) (hx : Loc X.env.scope x := by first | exact Or.inl rfl | exact Or.inr rfl)
  (hy : Loc X.env.scope y := by first | exact Or.inl rfl | exact Or.inr rfl)
  (hf : X.fn x = true ∨ X.env.scope.names.lookup x = some .local := by first | exact .inl rfl | exact .inr rfl | assumption) (hf' : X.fn y = true ∨ X.env.scope.names.lookup y = some .local := by first | exact .inl rfl | exact .inr rfl | assumption)
  : CB X (.Tuple [.Name x px, .Name y py] k pos) (bTup [i, j]) :=
 PG.imp (pg_tup hc (pgs_cons (pg_name hN hi hx hf) (pgs_cons (pg_name hN hj hy hf') pgs_nil))) fun v σ H Q hX11_ => by
  obtain ⟨F, α, e, μ, t, e', S, r, hb, q⟩ := hX11_
  cases t with
  | tup ts =>
   unfold bTup at hb
   simp only at hb
   by_cases hl : ts.length = [i, j].length
   ·rw [if_pos hl] at hb
    rw [Rep] at r
    obtain ⟨a, vs, rfl, hq, hr⟩ := r
    match ts, vs, hl, hr with
    | [t1, t2], vs, _, hr =>
     rw [RepL] at hr
     obtain ⟨v1, vs1, rfl, r1, hr⟩ := hr
     rw [RepL] at hr
     obtain ⟨v2, vs2, rfl, r2, hr⟩ := hr
     rw [RepL] at hr
     subst hr
     cases hb
     exact ⟨a, _, rfl, Same.seqT S.st.ext hq, rfl, v1, [v2], rfl, v2, [], rfl, rfl, q _ ((S.set (x := .val t1) r1).set (x := .val t2) r2)⟩
   ·rw [if_neg hl] at hb; cases hb
  | _ => cases hb
end
section
variable {X : Cx} {tg iter c : Expr} {body : List Stmt} {di : DI} {b : BD} {d : DS} {dc : D} {pos : Pos}
theorem cs_for (hp : PassesOwn (model X.prog X.w) X.A X.env X.xe) (hc : X.calm = true) (hi : CI X tg iter di) (hg : CB X tg b) (hb : CSs X body d) (hs : ∀ x, foldedSetIterable iter X.env x = pure x := by intro _; rfl) :
  CS X (.For tg iter body [] pos) (sFor di b d) := PS.imp (ps_for hp hc hi hg hb hs) fun D σ H hX11_ => by
 obtain ⟨F, α, e, μ, S, h⟩ := hX11_
 refine ⟨F, α, e, μ, S, (PostS.toS h).mono (fun W μ1 h J H1 F1 α1 x1 S1 ok => ?_) fun _ _ h => h⟩
 refine ⟨fun i m σ H => m = W.items.length - i ∧ i ≤ W.items.length ∧ ∃ F2 α2 e2 μ2, Same F1 F2 ∧ α1 <+: α2 ∧ Sim X.K F2 α2 e2 μ2 σ H ∧ PostS X F2 α2 H D (forL W.same b d (W.items.drop i) e2 μ2),
  ⟨_, rfl, Nat.zero_le _, F1, α1, e, μ1, Same.refl _, List.prefix_refl _, S1, PostS.mono x1 h⟩, ?_⟩
 rintro i m σ2 H2 ⟨rfl, hi, F2, α2, e2, μ2, s2, p2, S2, h⟩
 by_cases hlt : i < W.items.length
 ·rw [List.drop_eq_getElem_cons hlt] at h
  unfold forL at h
  by_cases hs : W.same μ2
  ·rw [if_pos hs] at h
   obtain ⟨g1, g2⟩ := ok F2 α2 μ2 H2 s2 p2 S2.st hs
   obtain ⟨go, yl⟩ := g1 i W.items[i] (by simp [hlt])
   cases hb' : b W.items[i] e2 with
   | none => simp only [hb'] at h; exact h.elim
   | some e3 =>
    simp only [hb'] at h
    refine .inr ⟨go, fun σ' H' => ∃ F4 α4 e4 μ4, Same F1 F4 ∧ α1 <+: α4 ∧ Sim X.K F4 α4 e4 μ4 σ' H' ∧ PostS X F4 α4 H' D (forL W.same b d (W.items.drop (i + 1)) e4 μ4),
     fun σ' H' q => ⟨W.items.length - (i + 1), by omega, rfl, hlt, q⟩, fun x H3 y => ?_⟩
    obtain ⟨F3, gr, rp⟩ := yl x H3 y
    have x3 : Ex F2 α2 H2 F3 α2 H3 := gr.ex S2.st.ext
    refine ⟨F3, α2, e2, μ2, W.items[i], e3, S2.grow gr, rp, hb', fun σ4 S4 => ⟨F3, α2, e3, μ2, S4, ?_⟩⟩
    cases q : d e3 μ2 with
    | nx e5 μ5 =>
     simp only [q] at h
     exact fun σ' H' F' α' x S' => ⟨F', α', e5, μ5, s2.trans (x3.same.trans x.same), p2.trans x.pre, S', PostS.mono (x3.trans x) h⟩
    | ct e5 μ5 =>
     simp only [q] at h
     exact fun σ' H' F' α' x S' => ⟨F', α', e5, μ5, s2.trans (x3.same.trans x.same), p2.trans x.pre, S', PostS.mono (x3.trans x) h⟩
    | bk e5 μ5 =>
     simp only [q] at h
     exact fun σ' H' F' α' x S' => h σ' H' F' α' (x3.trans x) S'
    | rt x μ5 =>
     simp only [q] at h
     exact fun v H' F' α' x S' => h v H' F' α' (x3.trans x) S'
    | err c e5 μ5 => simp only [q] at h; exact XPost.mono x3 h
    | bad => simp only [q] at h; exact h
  ·rw [if_neg hs] at h; exact h.elim
 ·have e1 : i = W.items.length := by omega
  subst e1
  rw [List.drop_length] at h
  unfold forL at h
  by_cases hs : W.same μ2
  ·rw [if_pos hs] at h
   obtain ⟨g1, g2⟩ := ok F2 α2 μ2 H2 s2 p2 S2.st hs
   exact .inl ⟨g2, h σ2 H2 F2 α2 Ex.refl S2⟩
  ·rw [if_neg hs] at h; exact h.elim
end
end Fw
namespace L2
open PySem PySem.Spec PyProof.Rows
theorem compLoop_gen {prog : Program} {w : World} {A : Around} {R : Result → Shared → Prop} {s : Shared} {elt target iter : Expr} {ifs : List Expr} {scope : Scope} {pos : Pos} {it acc : Value} {env : Env} (I : Nat → Shared → Prop)
  (turn : ∀ n s, I n s → wpAny (model prog w) A (pyNext it) (fun r s₁ => match r with
   | none => R (.ok .next) s₁
   | some v => wpAny (model prog w) A (letOwnedTupleGo target it v) (fun _ s₁' => wpAny (model prog w) A (assign target env v) (fun _ s₂ =>
     wpAny (model prog w) A (forIn ifs true fun c r => if r = true then do let ok ← isTrue c env (eval c env); pure (ForInStep.yield ok) else pure (ForInStep.yield r)) (fun ok s₃ =>
      if ok = true then wpAny (model prog w) A (eval elt env) (fun x s₄ =>
       wpAny (model prog w) A (call (.builtin "list.append") [acc, x]) (fun _ s₅ => ∃ m, m < n ∧ I m s₅) (fun _ _ => False) s₄) (fun _ _ => False) s₃
      else ∃ m, m < n ∧ I m s₃) (fun _ _ => False) s₂) (fun _ _ => False) s₁') (fun _ _ => False) s₁) (fun _ _ => False) s)
  (n : Nat) (h : I n s) : codeAny (model prog w) A (.compLoop (.ListComp elt [⟨target, iter, ifs, 0⟩] scope pos) 0 it acc env) R s := by
 have no : ∀ {α : Type} {t : Sem α} {Q : α → Shared → Prop} {E : Value → Shared → Prop} {s : Shared}, wpAny (model prog w) A t Q (fun _ _ => False) s → wpAny (model prog w) A t Q E s := fun h => wpAny_mono h (fun _ _ x => x) fun _ _ x => x.elim
 refine codeAny_loop rfl I (fun n s hI => ?_) n h
 show wpAny _ A ((compTurn (.ListComp elt [⟨target, iter, ifs, 0⟩] scope pos) 0 it acc env).onRaise (fun x => do noteFrame x env; theTreesLotGoes x)) _ _ s
 refine wpAny_noted ?_
 rw [compTurn_list]
 refine wpAny_bind (wpAny_standAt (wpAny_bind (wpAny_mono (no (turn n s hI)) (fun r s₁ h₁ => ?_) fun _ _ h' => h')))
 cases r with
 | none => exact wpAny_pure h₁
 | some v =>
  refine wpAny_bind (wpAny_mono (no h₁) (fun _ s₁' h₁' => ?_) fun _ _ h' => h')
  refine wpAny_bind (wpAny_mono (no h₁') (fun _ s₂ h₂ => wpAny_bind (wpAny_mono (no h₂) (fun ok s₃ h₃ => ?_) fun _ _ h' => h')) fun _ _ h' => h')
  cases ok with
  | false => exact wpAny_pure ⟨rfl, h₃⟩
  | true =>
   exact wpAny_bind (wpAny_bind (wpAny_mono (no h₃) (fun x s₄ h₄ => wpAny_bind (wpAny_mono (no h₄) (fun _ s₅ h₅ => wpAny_pure (wpAny_pure ⟨rfl, h₅⟩)) fun _ _ h' => h')) fun _ _ h' => h'))
noncomputable def compCx (X : Cx) (N' : List Str) (scope : Scope) (cl : List (Str × Addr)) (C : Addr) (s₀ : Shared) (H₀ : Hp) (ex : List Addr) : Cx :=
 { X with N := N', s₀ := s₀, H₀ := H₀, env := compEnvC scope cl C X.env, outer := X.stack, stack := X.stack, ex := ex, fn := fun x => (scope.names.lookup x == some NameKind.cell), pn := [], xe := fun _ _ => False }
noncomputable def PIfs (X : Cx) (ifs : List Expr) (t : TT) : Prop :=
 ∀ (pins : List (Addr × Obj)) (s : Shared) (σ : St) (H : Hp) (Q : Bool → Hp → Prop), Inv X pins σ H s → t σ H Q →
  wpAny (model X.prog X.w) X.A (forIn ifs true fun c r => if r = true then do let ok ← isTrue c X.env (eval c X.env); pure (ForInStep.yield ok) else pure (ForInStep.yield r)) (TP X pins σ Q) X.xe s
theorem pifs_nil {X : Cx} : PIfs X [] (fun _ H Q => Q true H) := fun _ _ _ H _ I h => wpAny_tests_nil ⟨H, I, h⟩
noncomputable def iniV (mp : List (Option Nat)) (σ : St) : St := mp.map fun o => o.bind fun j => (σ[j]?).bind id
structure CompScope (X : Cx) (N' : List Str) (scope : Scope) (mp : List (Option Nat)) : Prop where
 kind : scope.kind = .function
 cells : (scope.names.filter fun y => y.2 == NameKind.cell).length ≤ 1
 nd : (scope.names.map (·.1)).Nodup
 loc : ∀ x ∈ scope.names, x.2 = .local → scope.names.lookup x.1 = some .local
 free : ∀ y ∈ scope.names, y.2 = .free → X.env.kindOf y.1 = some .cell ∨ X.env.kindOf y.1 = some .free
 len : mp.length = N'.length
 from_ : ∀ (i j : Nat), mp[i]? = some (some j) → ∃ x, N'[i]? = some x ∧ X.N[j]? = some x ∧ (x, NameKind.free) ∈ scope.names ∧ (X.env.scope.names.lookup x = some .cell ∨ X.env.scope.names.lookup x = some .free)
 seen : ∀ x, (x, NameKind.free) ∈ scope.names → (relabel scope X.env).names.lookup x = some .cell ∨ (relabel scope X.env).names.lookup x = some .free
 back : ∀ x, (relabel scope X.env).names.lookup x = some .cell ∨ (relabel scope X.env).names.lookup x = some .free → (x, NameKind.free) ∈ scope.names ∨ scope.names.lookup x = some .cell
inductive OneCell (names : List (Str × NameKind)) (n : Nat) (h : Heap) (acc : List (Str × Addr)) : Prop where
 | no (h0 : ∀ x, names.lookup x ≠ some .cell) (h1 : cellsFrom n names acc = acc) (h2 : pushCells h names = h)
 | one (y : Str) (h0 : ∀ x, names.lookup x = some .cell → x = y) (hy : names.lookup y = some .cell) (h1 : cellsFrom n names acc = (y, n) :: acc) (h2 : pushCells h names = h.push { cls := .type "cell", data := .cell none })
theorem no_cells : ∀ (names : List (Str × NameKind)) (n : Nat) (h : Heap) (acc : List (Str × Addr)), names.filter (fun y => y.2 == NameKind.cell) = [] → (∀ x, names.lookup x ≠ some .cell) ∧ cellsFrom n names acc = acc ∧ pushCells h names = h
 | [], n, h, acc, _ => ⟨fun x => by simp, rfl, rfl⟩
 | (y, k) :: names, n, h, acc, e => by
  rw [List.filter_cons] at e
  cases hk : (k == NameKind.cell) with
  | true => rw [if_pos (by exact hk)] at e; cases e
  | false =>
   rw [if_neg (by simp [hk])] at e
   obtain ⟨h1, h2, h3⟩ := no_cells names n h acc e
   refine ⟨fun x hx => ?_, ?_, ?_⟩
   ·rw [List.lookup_cons] at hx
    cases hb : x == y with
    | true => rw [hb] at hx; cases hx; simp at hk
    | false => rw [hb] at hx; exact h1 x hx
   ·unfold cellsFrom; rw [if_neg (by simp [hk])]; exact h2
   ·unfold pushCells; rw [if_neg (by simp [hk])]; exact h3
theorem one_cell : ∀ (names : List (Str × NameKind)) (n : Nat) (h : Heap) (acc : List (Str × Addr)), (names.filter fun y => y.2 == NameKind.cell).length ≤ 1 → (names.map (·.1)).Nodup → OneCell names n h acc
 | [], n, h, acc, _, _ => .no (fun x => by simp) rfl rfl
 | (y, k) :: names, n, h, acc, e, nd => by
  rw [List.filter_cons] at e
  have nd' := List.nodup_cons.mp (by simpa using nd : (y :: names.map (·.1)).Nodup)
  cases hk : (k == NameKind.cell) with
  | true =>
   rw [if_pos (by exact hk)] at e
   have e0 : names.filter (fun y => y.2 == NameKind.cell) = [] := List.length_eq_zero_iff.mp (by simpa using e)
   obtain ⟨h1, h2, h3⟩ := no_cells names (n + 1) (h.push { cls := .type "cell", data := .cell none }) ((y, n) :: acc) e0
   have ek : k = .cell := by simpa using hk
   subst ek
   refine .one y (fun x hx => ?_) (by simp) ?_ ?_
   ·rw [List.lookup_cons] at hx
    cases hb : x == y with
    | true => exact eq_of_beq hb
    | false => rw [hb] at hx; exact absurd hx (h1 x)
   ·unfold cellsFrom; rw [if_pos (by simp)]; exact h2
   ·unfold pushCells; rw [if_pos (by simp)]; exact h3
  | false =>
   rw [if_neg (by simp [hk])] at e
   have kn : k ≠ .cell := by simpa using hk
   have lk : ∀ x, ((y, k) :: names).lookup x = some .cell → names.lookup x = some .cell := fun x hx => by
    rw [List.lookup_cons] at hx
    cases hb : x == y with
    | true => rw [hb] at hx; cases hx; exact absurd rfl kn
    | false => rw [hb] at hx; exact hx
   cases one_cell names n h acc e nd'.2 with
   | no h0 h1 h2 =>
    refine .no (fun x hx => h0 x (lk x hx)) ?_ ?_
    ·unfold cellsFrom; rw [if_neg (by simp [hk])]; exact h1
    ·unfold pushCells; rw [if_neg (by simp [hk])]; exact h2
   | one z h0 hz h1 h2 =>
    have zne : (z == y) = false := by
     have : z ≠ y := fun q => by
      subst q
      exact nd'.1 (List.mem_map.mpr ⟨_, PySem.mem_of_lookup hz, rfl⟩)
     simpa using this
    refine .one z (fun x hx => h0 x (lk x hx)) (by rw [List.lookup_cons, zne]; exact hz) ?_ ?_
    ·unfold cellsFrom; rw [if_neg (by simp [hk])]; exact h1
    ·unfold pushCells; rw [if_neg (by simp [hk])]; exact h2
theorem newEnv_comp {M : Model} {A : Around} {E : Value → Shared → Prop} {s : Shared} {scope : Scope} {globals : Addr} {cl : List (Str × Addr)} {qual : Str} {outer : Env} {Q : Env → Shared → Prop}
  (hQ : Q (newEnv scope s.heap.objs.size globals (cellsFrom (s.heap.objs.size + 1) scope.names cl) qual none .none (some outer) builtinsNs) { s with heap := pushCells (s.heap.push { cls := .type "dict", data := .dict #[] }) scope.names }) :
  wpAny M A (newFunctionEnv scope globals cl [] qual none .none (some outer)) Q E s := by
 simp only [newFunctionEnv, Option.isSome_some, if_true]
 refine wpAny_bind (wpAny_alloc ?_)
 refine wpAny_bind (wpAny_layCells _ (fun name kind cells => by cases hkc : kind == NameKind.cell <;> simp [hkc]) _ _ _ _ ?_)
 rw [show ({ s with heap := s.heap.push { cls := .type "dict", data := .dict #[] } } : Shared).heap.objs.size = s.heap.objs.size + 1 from Heap.size_push ..]
 simp only [List.forIn_nil]
 exact wpAny_bind (wpAny_pure (wpAny_pure hQ))
theorem closure_list {env : Env} : ∀ (names : List (Str × NameKind)) (acc : List (Str × Addr)), (∀ y ∈ names, y.2 = .free → ∃ c, env.cells.lookup y.1 = some c) →
  ∃ cl : List (Str × Addr), (forIn names acc fun x r => (if (x.2 == NameKind.free) = true then do let c ← cellOf env x.1; pure (ForInStep.yield ((x.1, c) :: r)) else pure (ForInStep.yield r) : Sem (ForInStep (List (Str × Addr))))) = pure cl ∧
   (∀ x c, cl.lookup x = some c → acc.lookup x = some c ∨ env.cells.lookup x = some c) ∧ (∀ x, (x, NameKind.free) ∈ names ∨ (acc.lookup x).isSome = true → (cl.lookup x).isSome = true)
 | [], acc, _ => ⟨acc, rfl, fun x c h => .inl h, fun x h => by
   rcases h with h | h
   ·simp at h
   ·exact h⟩
 | (n, k) :: r, acc, h => by
  by_cases hk : k = .free
  ·subst hk
   obtain ⟨c, hc⟩ := h (n, .free) List.mem_cons_self rfl
   obtain ⟨cl, e, h1, h2⟩ := closure_list r ((n, c) :: acc) fun y hy => h y (List.mem_cons_of_mem _ hy)
   refine ⟨cl, ?_, fun x d hx => ?_, fun x hx => h2 x ?_⟩
   ·rw [List.forIn_cons]
    have e1 : (NameKind.free == NameKind.free) = true := by decide
    simp only [e1, if_true]
    have e2 : cellOf env n = pure c := by simp only [cellOf, hc]
    rw [e2]
    exact e
   ·rcases h1 x d hx with g | g
    ·rw [List.lookup_cons] at g
     cases q : x == n with
     | true =>
      rw [q] at g
      cases g
      have : x = n := by simpa using q
      subst this
      exact .inr hc
     | false => rw [q] at g; exact .inl g
    ·exact .inr g
   ·rcases hx with hx | hx
    ·rcases List.mem_cons.mp hx with g | g
     ·cases g
      right
      simp [List.lookup_cons]
     ·exact .inl g
    ·right
     rw [List.lookup_cons]
     cases q : x == n with
     | true => rfl
     | false => exact hx
  ·obtain ⟨cl, e, h1, h2⟩ := closure_list r acc fun y hy => h y (List.mem_cons_of_mem _ hy)
   refine ⟨cl, ?_, h1, fun x hx => h2 x ?_⟩
   ·rw [List.forIn_cons]
    have e1 : (k == NameKind.free) = false := by simpa using hk
    simp only [e1, Bool.false_eq_true, if_false]
    exact e
   ·rcases hx with hx | hx
    ·rcases List.mem_cons.mp hx with g | g
     ·cases g
      exact absurd rfl hk
     ·exact .inl g
    ·exact .inr hx
theorem closure_ok {scope : Scope} {env : Env} (h : ∀ y ∈ scope.names, y.2 = .free → ∃ c, env.cells.lookup y.1 = some c) :
  ∃ cl, closureFor scope env = pure cl ∧ (∀ x c, cl.lookup x = some c → env.cells.lookup x = some c) ∧ (∀ x, (x, NameKind.free) ∈ scope.names → (cl.lookup x).isSome = true) := by
 obtain ⟨cl, e, h1, h2⟩ := closure_list (env := env) scope.names [] h
 refine ⟨cl, ?_, fun x c hx => (h1 x c hx).elim (fun g => by simp at g) id, fun x hx => h2 x (.inl hx)⟩
 simp only [closureFor]
 rw [e]
 rfl
section
variable {X : Cx} {elt iter tg : Expr} {ifs : List Expr} {scope : Scope} {pos : Pos} {N' : List Str} {g : TG} {tc : TT} {te : TE} {mp : List (Option Nat)}
noncomputable def tLoop (J : It) (mp : List (Option Nat)) (g : TG) (tc : TT) (te : TE) (σ : St) (H : Hp) (Q : VK) : Prop := ∀ p, H p = none → ∃ W : Nat → Nat → St → Hp → Prop, (∃ m, W 0 m (iniV mp σ) (upd H p (.lst []))) ∧ ∀ i m σ H, W i m σ H →
 (J.stop i H ∧ Q (.ref p) H) ∨ (J.go i H ∧ ∃ N : St → Hp → Prop, (∀ σ' H', N σ' H' → ∃ m', m' < m ∧ W (i + 1) m' σ' H') ∧ ∀ x H', J.yld i H x H' → g x σ H' fun σ2 H2 => tc σ2 H2 fun b H3 =>
  if b = true then te σ2 H3 fun y H4 => rAppend (.ref p) [y] H4 fun _ H5 => N σ2 H5 else N σ2 H3)
theorem iniV_get {mp : List (Option Nat)} {σ : St} {i : Nat} {v : V} (h : (iniV mp σ)[i]? = some (some v)) : ∃ j, mp[i]? = some (some j) ∧ σ[j]? = some (some v) := by
 unfold iniV at h
 rw [List.getElem?_map] at h
 cases q : mp[i]? with
 | none => rw [q] at h; cases h
 | some o =>
  cases o with
  | none => rw [q] at h; cases h
  | some j =>
   rw [q] at h
   refine ⟨j, rfl, ?_⟩
   have h : (σ[j]?).bind id = some v := by simpa using h
   cases z : σ[j]? with
   | none => rw [z] at h; cases h
   | some y => rw [z] at h; have h : y = some v := h; rw [h]
theorem inv_comp {pins : List (Addr × Obj)} {σ : St} {H : Hp} {s₀ : Shared} {C : Addr} {h₁ : Heap} {t' : Nat} {cl : List (Str × Addr)} {fp : List Addr} (hS : CompScope X N' scope mp) (I : Inv X pins σ H s₀)
  (hcl : ∀ x c, cl.lookup x = some c → X.env.cells.lookup x = some c ∨ (scope.names.lookup x = some .cell ∧ c = C + 1 ∧ h₁.IsCell c none ∧ ∀ z, scope.names.lookup z = some .cell → z = x)) (hcs : ∀ x, (x, NameKind.free) ∈ scope.names → (cl.lookup x).isSome = true ∧ ∀ c, cl.lookup x = some c → X.env.cells.lookup x = some c)
  (hcn : ∀ x, scope.names.lookup x = some .cell → cl.lookup x = some (C + 1))
  (hC : C = s₀.heap.objs.size) (keep : ∀ b o, s₀.heap.get? b = some o → h₁.get? b = some o) (ns : ∃ m, h₁.Ns C m) (hf : ∀ b ∈ fp, FpOk X pins H b) (hfp : ∀ b ∈ fp, b < s₀.heap.objs.size) :
  Inv (compCx X N' scope cl C s₀ H fp) [] (iniV mp σ) H { s₀ with heap := h₁, toks := t' } := by
 obtain ⟨m0, ns⟩ := ns
 have cellK : ∀ c v, s₀.heap.IsCell c v → h₁.IsCell c v := fun c v ⟨o, ho, hd⟩ => ⟨o, keep c o ho, hd⟩
 refine ⟨⟨I.ok.mod, hS.kind, I.ok.glob, I.ok.blt, Nat.le_of_eq hC.symm, fun x y c h1 h2 => ?_, fun x hx => ?_, fun x c h hx => ?_, I.ok.hd, I.ok.frames, .inl rfl, fun b hb => ⟨?_, fun x c h => ?_⟩, I.bs, Nat.le_trans I.ok.bsz I.sz,
   fun b o e hb => ?_, fun b hb hs => ?_, I.stack, I.stkFree⟩, rfl, I.bare, Un.kept keep, ⟨m0, ns, fun i x v e1 e2 e3 => ?_⟩, fun x c h => ?_, ?_, fun x c h => ?_, fun p hp => absurd hp (by intro z; cases z), I.hok.kept keep, ?_⟩
 ·have old : ∀ z, X.env.cells.lookup z = some c → c < s₀.heap.objs.size := fun z hz => by
   obtain ⟨v, q⟩ := I.cell z c hz
   exact q.lt
  rcases hcl x c h1 with a | ⟨a, ca, _, ua⟩
  ·rcases hcl y c h2 with b | ⟨b, cb, _⟩
   ·exact I.ok.inj x y c a b
   ·have := old x a
    rw [cb, hC] at this
    exact absurd this (Nat.not_lt.mpr (Nat.le_succ _))
  ·rcases hcl y c h2 with b | ⟨b, cb, _⟩
   ·have := old y b
    rw [ca, hC] at this
    exact absurd this (Nat.not_lt.mpr (Nat.le_succ _))
   ·exact (ua y b).symm
 ·rcases hS.back x hx with q | q
  ·exact Option.isSome_iff_exists.mp (hcs x q).1
  ·exact ⟨_, hcn x q⟩
 ·have q : scope.names.lookup x = some .cell := by
   have h : (scope.names.lookup x == some NameKind.cell) = true := h
   simpa using h
  have hx : cl.lookup x = some c := hx
  rw [hcn x q] at hx
  cases hx
  rw [hC]
  exact Nat.le_succ _
 ·intro z
  have := hfp b hb
  rw [z] at this
  have h2 : C < s₀.heap.objs.size := this
  rw [hC] at h2
  exact Nat.lt_irrefl _ h2
 ·rcases hcl x c h with a | ⟨a, ca, _⟩
  ·exact (hf b hb).2.2.2.2.1 x c a
  ·have := hfp b hb
   rw [ca, hC]
   exact fun q => absurd (q ▸ this) (Nat.not_lt.mpr (Nat.le_succ _))
 ·rcases (hf b hb).2.2.2.1 with z | z
  ·exact I.ok.noex b o e z
  ·exact absurd (Nat.lt_of_lt_of_le (Heap.lt_size e) (Nat.le_trans I.ok.bsz z)) (Nat.lt_irrefl _)
 ·rcases List.mem_cons.mp (I.stkSub b hs) with z | z
  ·exact (hf b hb).2.1 z
  ·exact (hf b hb).2.2.1 z
 ·obtain ⟨j, hj, hv⟩ := iniV_get e2
  obtain ⟨y, y1, y2, y3, y4⟩ := hS.from_ i j hj
  have hy : y = x := by
   have : (compCx X N' scope cl C s₀ H fp).N[i]? = some y := y1
   rw [e1] at this
   exact (Option.some.inj this).symm
  subst hy
  obtain ⟨m, hn, hl⟩ := I.loc
  obtain ⟨u, ru, lk⟩ := hl j y v y2 hv (y4.elim (fun z => .inr (.inl z)) fun z => .inr (.inr z))
  refine ⟨u, ru, ?_⟩
  rcases lk with ⟨hk, _⟩ | ⟨hk, c, hc, hcell⟩
  ·exfalso
   have hk : X.env.scope.names.lookup y = some .local := hk
   rcases y4 with z | z
   ·rw [hk] at z; cases z
   ·rw [hk] at z; cases z
  ·obtain ⟨c', hc'⟩ := Option.isSome_iff_exists.mp (hcs y y3).1
   have : c' = c := by
    have q := (hcs y y3).2 c' hc'
    rw [hc] at q
    exact (Option.some.inj q).symm
   subst this
   exact .inr ⟨hS.seen y y3, c', hc', cellK _ _ hcell⟩
 ·rcases hcl x c h with a | ⟨_, _, a, _⟩
  ·obtain ⟨v, hv⟩ := I.cell x c a
   exact ⟨v, cellK _ _ hv⟩
  ·exact ⟨none, a⟩
 ·show H C = none
  rw [hC]
  exact I.hok.fresh (Nat.le_refl _)
 ·rcases hcl x c h with a | ⟨_, a, _⟩
  ·exact I.freeC x c a
  ·rw [a, hC]; exact I.hok.fresh (Nat.le_succ _)
 ·show (iniV mp σ).length = N'.length
  unfold iniV
  rw [List.length_map, hS.len]
theorem comp_core {pins : List (Addr × Obj)} {s₂ : Shared} {σ : St} {H₂ : Hp} {it : Addr} {fp : List Addr} {tn : Nat → Heap → Prop} {J : It} {cl : List (Str × Addr)} {Q : VK} {RR : Value → Addr → Result → Shared → Prop} {E : Value → Shared → Prop}
  (hS : CompScope X N' scope mp) (hcalm : X.calm = true) (hg : ∀ cl C s₀ H₀ ex, PG (compCx X N' scope cl C s₀ H₀ ex) tg g) (hc : ∀ cl C s₀ H₀ ex, PIfs (compCx X N' scope cl C s₀ H₀ ex) ifs tc) (he : ∀ cl C s₀ H₀ ex, PE (compCx X N' scope cl C s₀ H₀ ex) elt te)
  (hcl : ∀ x c, cl.lookup x = some c → X.env.cells.lookup x = some c) (hcs : ∀ x, (x, NameKind.free) ∈ scope.names → (cl.lookup x).isSome = true)
  (I : Inv X pins σ H₂ s₂) (T : Turn X.prog X.w X.K tg J fp it tn) (st : tn 0 s₂.heap) (hf : ∀ b ∈ fp, FpOk X pins H₂ b) (hq : tLoop J mp g tc te σ H₂ Q)
  (fin : ∀ p C s' H', Inv X pins σ H' s' → FpOk X pins H' C → (∃ m, s'.heap.Ns C m) → Q (.ref p) H' → RR (.ref p) C (.ok .next) s') :
  wpAny (model X.prog X.w) X.A (newList []) (fun acc s₃ => wpAny (model X.prog X.w) X.A (newFunctionEnv scope X.env.globals cl [] X.env.qual none .none (some X.env)) (fun cenv s₄ =>
   codeAny (model X.prog X.w) X.A (.compStart (.ListComp elt [⟨tg, iter, ifs, 0⟩] scope pos) 0 (.ref it) acc { cenv with scope := relabel scope X.env }) (RR acc cenv.locals) s₄) E s₃) E s₂ := by
 refine wpAny_newObj_type (newEnv_comp ?_)
 dsimp only
 have I₃ : Inv X pins σ (upd H₂ s₂.heap.objs.size (.lst [])) { s₂ with heap := s₂.heap.push { cls := .type "list", dict := none, data := .seq ([] : List Value).toArray } } :=
  I.lnew (t' := s₂.toks) (ys := []) .nil (Nat.zero_le _)
 generalize hH2 : s₂.heap.push { cls := .type "list", dict := none, data := .seq ([] : List Value).toArray } = H2 at I₃ ⊢
 obtain ⟨h₁, hh1⟩ : ∃ h₁, h₁ = pushCells (H2.push { cls := .type "dict", data := .dict #[] }) scope.names := ⟨_, rfl⟩
 rw [← hh1]
 have hns₁ : h₁.Ns H2.objs.size (fun _ => none) := by rw [hh1]; exact (Heap.Ns.new H2 (.type "dict")).keeps (pushCells_keeps _ _)
 obtain ⟨cl', hcl'⟩ : ∃ cl', cl' = cellsFrom (H2.objs.size + 1) scope.names cl := ⟨_, rfl⟩
 rw [← hcl']
 have oneC := one_cell scope.names (H2.objs.size + 1) (H2.push { cls := .type "dict", data := .dict #[] }) cl hS.cells hS.nd
 have fc : ∀ x, (x, NameKind.free) ∈ scope.names → scope.names.lookup x ≠ some .cell := fun x hx q => by
  have nd := hS.nd
  have m2 := PySem.mem_of_lookup q
  have key : ∀ l : List (Str × NameKind), (l.map (·.1)).Nodup → (x, NameKind.free) ∈ l → (x, NameKind.cell) ∈ l → False := by
   intro l
   induction l with
   | nil => intro _ h; cases h
   | cons a l ih =>
    intro nd h1 h2
    have nd' := List.nodup_cons.mp (by simpa using nd : (a.1 :: l.map (·.1)).Nodup)
    rcases List.mem_cons.mp h1 with e1 | h1
    ·rcases List.mem_cons.mp h2 with e2 | h2
     ·rw [← e1] at e2; cases e2
     ·exact nd'.1 (List.mem_map.mpr ⟨_, h2, by rw [← e1]⟩)
    ·rcases List.mem_cons.mp h2 with e2 | h2
     ·exact nd'.1 (List.mem_map.mpr ⟨_, h1, by rw [← e2]⟩)
     ·exact ih nd'.2 h1 h2
  exact key _ nd hx m2
 have hcl0 : ∀ x c, cl'.lookup x = some c → X.env.cells.lookup x = some c ∨ (scope.names.lookup x = some .cell ∧ c = H2.objs.size + 1 ∧ h₁.IsCell c none ∧ ∀ z, scope.names.lookup z = some .cell → z = x) := fun x c h => by
  cases oneC with
  | no _ e1 _ => rw [hcl'.trans e1] at h; exact .inl (hcl x c h)
  | one y h0 hy e1 e2 =>
   rw [hcl'.trans e1, List.lookup_cons] at h
   cases hb : x == y with
   | true =>
    rw [hb] at h
    have hxy : x = y := eq_of_beq hb
    have h : some (H2.objs.size + 1) = some c := h
    cases h
    subst hxy
    refine .inr ⟨hy, rfl, ?_, fun z hz => h0 z hz⟩
    rw [hh1.trans e2, ← Heap.size_push H2 { cls := .type "dict", data := .dict #[] }]
    exact ⟨_, Heap.get?_push_size _ rfl, rfl⟩
   | false => rw [hb] at h; exact .inl (hcl x c h)
 have hcs0 : ∀ x, (x, NameKind.free) ∈ scope.names → (cl'.lookup x).isSome = true ∧ ∀ c, cl'.lookup x = some c → X.env.cells.lookup x = some c := fun x hx => by
  have el : cl'.lookup x = cl.lookup x := by
   cases oneC with
   | no _ e1 _ => rw [hcl'.trans e1]
   | one y h0 hy e1 e2 =>
    rw [hcl'.trans e1, List.lookup_cons]
    cases hb : x == y with
    | true => exact absurd ((eq_of_beq hb) ▸ hy) (fc x hx)
    | false => rfl
  rw [el]
  exact ⟨hcs x hx, fun c hc => hcl x c hc⟩
 have hcn0 : ∀ x, scope.names.lookup x = some .cell → cl'.lookup x = some (H2.objs.size + 1) := fun x hx => by
  cases oneC with
  | no h0 _ _ => exact absurd hx (h0 x)
  | one y h0 hy e1 e2 =>
   rw [hcl'.trans e1, h0 x hx, List.lookup_cons]
   simp
 have fresh : H₂ s₂.heap.objs.size = none := I.hok.fresh (Nat.le_refl _)
 have fpl : ∀ b ∈ fp, b < s₂.heap.objs.size := fun b hb => by
  obtain ⟨o, ho, _⟩ := T.obj _ _ st b hb
  exact Heap.lt_size ho
 have hszl : s₂.heap.objs.size ≤ H2.objs.size := by rw [← hH2, Heap.size_push]; exact Nat.le_succ _
 have old2 : ∀ b o, s₂.heap.get? b = some o → H2.get? b = some o := fun b o e => by rw [← hH2]; exact Heap.get?_push_of_some _ e
 have old : ∀ b o, H2.get? b = some o → h₁.get? b = some o := fun b o e => by rw [hh1]; exact pushCells_keeps _ _ _ _ (Heap.get?_push_of_some _ e)
 have hf3 : ∀ b ∈ fp, FpOk X pins (upd H₂ s₂.heap.objs.size (.lst [])) b := fun b hb => ⟨by rw [upd_ne (Nat.ne_of_lt (fpl b hb))]; exact (hf b hb).1, (hf b hb).2⟩
 have I₄ := inv_comp (t' := s₂.toks) (N' := N') (C := H2.objs.size) (h₁ := h₁) hS I₃ hcl0 hcs0 hcn0 rfl old ⟨_, hns₁⟩ hf3 fun b hb => Nat.lt_of_lt_of_le (fpl b hb) hszl
 have st4 : tn 0 h₁ := T.keep _ _ _ st fun b hb o e => old b o (old2 b o e)
 obtain ⟨W, ⟨m0, w0⟩, turn⟩ := hq s₂.heap.objs.size fresh
 generalize hX' : compCx X N' scope cl' H2.objs.size { s₂ with heap := H2 } (upd H₂ s₂.heap.objs.size (.lst [])) fp = X' at I₄
 have hg' : PG X' tg g := hX' ▸ hg _ _ _ _ _
 have hc' : PIfs X' ifs tc := hX' ▸ hc _ _ _ _ _
 have he' : PE X' elt te := hX' ▸ he _ _ _ _ _
 have e1 : X'.prog = X.prog := by rw [← hX']; rfl
 have e2 : X'.w = X.w := by rw [← hX']; rfl
 have e3 : X'.K = X.K := by rw [← hX']; rfl
 have e4 : X'.calm = true := by rw [← hX']; exact hcalm
 have e5 : X'.A = X.A := by rw [← hX']; rfl
 have e6 : X'.env = compEnvC scope cl' H2.objs.size X.env := by rw [← hX']; rfl
 have e7 : X'.xe = fun _ _ => False := by rw [← hX']; rfl
 have stat : ∀ {H' : Hp}, (∀ b ∈ fp, H' b = none) → ∀ b ∈ fp, FpOk X' [] H' b := fun {H'} hn b hb => by
  refine ⟨hn b hb, ?_, ?_, ?_, fun x c h => ?_, fun p hp => ?_⟩
  ·rw [e6]; exact Nat.ne_of_lt (Nat.lt_of_lt_of_le (fpl b hb) hszl)
  ·rw [← hX']
   intro hs
   rcases List.mem_cons.mp (I.stkSub b hs) with z | z
   ·exact (hf b hb).2.1 z
   ·exact (hf b hb).2.2.1 z
  ·rw [← hX']; exact .inl hb
  ·rw [e6] at h
   rcases hcl0 x c h with a | ⟨_, a, _⟩
   ·exact (hf b hb).2.2.2.2.1 x c a
   ·rw [a]
    have q1 := Nat.lt_of_lt_of_le (fpl b hb) hszl
    exact fun q => absurd (q ▸ q1) (Nat.not_lt.mpr (Nat.le_succ _))
  ·rw [← hX'] at hp; cases hp
 have loop : ∀ s₃ : Shared, Inv X' [] (iniV mp σ) (upd H₂ s₂.heap.objs.size (.lst [])) s₃ → tn 0 s₃.heap →
   codeAny (model X.prog X.w) X.A (.compLoop (.ListComp elt [⟨tg, iter, ifs, 0⟩] scope pos) 0 (.ref it) (.ref s₂.heap.objs.size) (compEnvC scope cl' H2.objs.size X.env)) (RR (.ref s₂.heap.objs.size) H2.objs.size) s₃ := by
  intro s₃ I₃' st3
  refine compLoop_gen (fun n s' => ∃ i σ' H', Inv X' [] σ' H' s' ∧ tn i s'.heap ∧ (∀ b ∈ fp, H' b = none) ∧ W i n σ' H') ?_ m0 ⟨0, _, _, I₃', st3, fun b hb => (hf3 b hb).1, w0⟩
  rintro n s4 ⟨i, σ4, H4, I4, st4, fr4, w4⟩
  rcases turn i n σ4 H4 w4 with ⟨stop, qn⟩ | ⟨go, N, hN, step⟩
  ·have q := T.done X' e1 e2 e3 e4 i [] s4 σ4 H4 (fun _ _ => False) I4 (stat fr4) st4 stop
   rw [e5] at q
   refine thn q fun r s5 hX11_ => ?_
   obtain ⟨hr, I5⟩ := hX11_
   subst hr
   have I6 : Inv X pins σ H4 s5 := by
    subst hX'
    exact I₃.call' (ch := fp) I5.os I5.base I5.hok I5.bare fun b hb => ⟨(hf3 b hb).2.2.2.1, (hf3 b hb).2.1, (hf3 b hb).2.2.2.2.1, (hf3 b hb).2.2.2.2.2⟩
   have hC : H4 H2.objs.size = none := by
    have := I5.free
    rw [e6] at this
    exact this
   have hns : ∃ m, s5.heap.Ns H2.objs.size m := by
    obtain ⟨m, hm, _⟩ := I5.loc
    rw [e6] at hm
    exact ⟨m, hm⟩
   exact fin _ _ s5 H4 I6 (I₃.fpOk (Nat.le_refl _) hC) hns qn
  ·have q := T.item X' e1 e2 e3 e4 i [] s4 σ4 H4 (fun _ _ => False) I4 (stat fr4) st4 go
   rw [e5] at q
   refine thn q fun r s5 hX21_ => ?_
   obtain ⟨u, hr, h5⟩ := hX21_
   subst hr
   refine thn h5 fun _ s6 hX31_ => ?_
   obtain ⟨x, H6, I6, r6, y6, st6, fr6⟩ := hX31_
   have I6' := I6.pinned (stat fr6) (T.obj _ _ st6)
   have g6 := hg' _ s6 σ4 H6 x u _ I6' r6 (step x H6 y6)
   rw [e1, e2, e5, e6, e7] at g6
   refine thn g6 fun _ s7 hX41_ => ?_
   obtain ⟨σ7, H7, I7, q7⟩ := hX41_
   have c7 := hc' _ s7 σ7 H7 _ I7 q7
   rw [e1, e2, e5, e6, e7] at c7
   refine thn c7 fun ok s8 hX51_ => ?_
   obtain ⟨H8, I8, q8⟩ := hX51_
   have again : ∀ {s9 : Shared} {σ9 : St} {H9 : Hp}, Inv X' ([] ++ pinsAt fp s6.heap) σ9 H9 s9 → N σ9 H9 → ∃ m, m < n ∧ ∃ i σ' H', Inv X' [] σ' H' s9 ∧ tn i s9.heap ∧ (∀ b ∈ fp, H' b = none) ∧ W i m σ' H' := fun {s9 σ9 H9} I9 n9 => by
    obtain ⟨m', hm, w9⟩ := hN σ9 H9 n9
    refine ⟨m', hm, i + 1, σ9, H9, I9.unpinned, T.keep _ _ _ st6 fun b hb o e => (I9.pin (b, o) (List.mem_append_right _ (List.mem_append_right _ (mem_pinsAt hb e)))).1, fun b hb => ?_, w9⟩
    obtain ⟨o, e, d⟩ := T.obj _ _ st6 b hb
    exact (I9.pin (b, o) (List.mem_append_right _ (List.mem_append_right _ (mem_pinsAt hb e)))).2.1
   cases ok with
   | false =>
    rw [if_neg Bool.false_ne_true] at q8 ⊢
    exact again I8 q8
   | true =>
    rw [if_pos rfl] at q8 ⊢
    have l8 := he' _ s8 σ7 H8 _ I8 q8
    rw [e1, e2, e5, e6, e7] at l8
    refine thn l8 fun y s9 hX61_ => ?_
    obtain ⟨z, H9, I9, r9, q9⟩ := hX61_
    have a9 := (mt_append (X := X')) _ s9 σ7 H9 (.ref s₂.heap.objs.size) [z] (.ref s₂.heap.objs.size) [y] _ I9 rfl (.cons r9 .nil) q9
    rw [e1, e2, e5, e7] at a9
    refine thn a9 fun _ s10 ⟨_, H10, I10, _, q10⟩ => again I10 q10
 refine codeAny_compStart_list (loop _ I₄ st4) ?_
 exact T.self X.A 0 _ _ _ st4 (loop _ I₄ st4)
theorem pe_comp {wi : TI} (hx : X.xe = fun _ _ => False) (hS : CompScope X N' scope mp) (hcalm : X.calm = true) (hi : PI X tg iter wi) (hg : ∀ cl C s₀ H₀ ex, PG (compCx X N' scope cl C s₀ H₀ ex) tg g) (hc : ∀ cl C s₀ H₀ ex, PIfs (compCx X N' scope cl C s₀ H₀ ex) ifs tc)
  (he : ∀ cl C s₀ H₀ ex, PE (compCx X N' scope cl C s₀ H₀ ex) elt te) (hs : ∀ x, foldedSetIterable iter X.env x = pure x := by intro _; rfl) :
  PE X (.ListComp elt [⟨tg, iter, ifs, 0⟩] scope pos) (fun σ H Q => wi σ H fun J H1 => tLoop J mp g tc te σ H1 Q) := by
 intro pins s σ H Q I h
 have hfr : ∀ y ∈ scope.names, y.2 = .free → ∃ c, X.env.cells.lookup y.1 = some c := fun y hy hk => I.ok.has y.1 (hS.free y hy hk)
 obtain ⟨cl, hcl, h1, h2⟩ := closure_ok hfr
 rw [eval_ListComp]
 refine wpAny_comprehension_free (use := none) rfl hs hcl hS.kind hS.loc (thn (hi pins s σ H _ I h) fun v s1 q1 => thn q1 fun itv s2 hX11_ => ?_)
 obtain ⟨it, fp, tn, J, H2, e, I2, T, st2, f2, q2⟩ := hX11_
 subst e
 refine comp_core (RR := fun acc C => compPost (model X.prog X.w) X.A X.xe none (EP X pins σ Q) acc C) hS hcalm hg hc he h1 h2 I2 T st2 f2 q2 fun p C s' H' I' fp' ns q' => ?_
 obtain ⟨m, hm⟩ := ns
 refine ⟨m, hm, fun h' sb => ⟨.ref p, H', ?_, rfl, q'⟩⟩
 exact I'.turned (t' := s'.toks) (fun b o hb e => (sb.2 b hb).trans e) fp'.1 fp'.2.1 fp'.2.2.2.1 fp'.2.2.2.2.1 fp'.2.2.2.2.2
end
end L2
namespace Fw
open PySem PySem.Spec PyProof.Rows L2
section
variable {K : PySem.W.Frag} {F F' F1 F2 H H' H1 H2 : Hp} {α α' α1 α2 : List Addr} {μ μ' : Store} {e : Slots} {σ : L2.St}
theorem slot_ini {mp : List (Option Nat)} {i : Nat} {x : SV} (h : slot (ini mp e) i = some x) : ∃ j, mp[i]? = some (some j) ∧ slot e j = some x := by
 unfold slot ini at h
 rw [List.getElem?_map] at h
 cases q : mp[i]? with
 | none => rw [q] at h; cases h
 | some o =>
  cases o with
  | none => rw [q] at h; cases h
  | some j =>
   rw [q] at h
   refine ⟨j, rfl, ?_⟩
   simp only [Option.map_some, Option.bind_some] at h
   cases z : slot e j with
   | none => rw [z] at h; cases h
   | some y => rw [z] at h; cases h; rfl
theorem Sim.ini (S : Sim K F α e μ σ H) (mp : List (Option Nat)) : Sim K F α (Fw.ini mp e) μ (iniV mp σ) H := by
 refine ⟨S.st, fun i x h => ?_, by unfold Fw.ini iniV; rw [List.length_map, List.length_map]⟩
 obtain ⟨j, hj, hx⟩ := slot_ini h
 obtain ⟨v, hv, ok⟩ := S.sl j x hx
 refine ⟨v, ?_, ok⟩
 unfold iniV
 rw [List.getElem?_map, hj]
 simp [hv]
theorem StOk.poke {p : Addr} {o : HO} (S : StOk K F α μ H) (h1 : F p = none) (h2 : p ∉ α) : StOk K F α μ (upd H p o) := by
 have na : ∀ {k : Nat} {a : Addr}, α[k]? = some a → a ≠ p := fun {k a} h q => h2 (by rw [← q]; exact List.mem_of_getElem? h)
 refine ⟨fun a z hz => ?_, S.len, S.nd, fun k a g => ?_, fun k b u a g1 g2 => ?_⟩
 ·rw [upd_ne (fun q => by subst q; rw [h1] at hz; cases hz)]; exact S.ext a z hz
 ·rw [upd_ne (na g)]; exact S.there k a g
 ·obtain ⟨c1, c2⟩ := S.cell k b u a g1 g2
  refine ⟨fun hb => ⟨(c1 hb).1, ?_⟩, c2⟩
  have d2 := (c1 hb).2
  cases u with
  | lst ts => obtain ⟨vs, w1, w2⟩ := d2; exact ⟨vs, by rw [upd_ne (na g2)]; exact w1, w2⟩
  | dct ts => obtain ⟨vs, w1, w2⟩ := d2; exact ⟨vs, by rw [upd_ne (na g2)]; exact w1, w2⟩
  | _ => exact d2.elim
theorem Ex.poke {p : Addr} {o : HO} (x : Ex F α H F' α' H') (h : H p = none) : Ex F α H F' α' (upd H' p o) := ⟨x.same, x.pre, fun b z h1 h2 h3 => by
 obtain ⟨g1, g2, g3⟩ := x.fr b z h1 h2 h3
 exact ⟨by rw [upd_ne (fun q => by subst q; rw [h] at h1; cases h1)]; exact g1, g2, g3⟩⟩
theorem Sim.back {e' : Slots} (S : Sim K F α e' μ σ H) (hl : e.length = e'.length) (h : ∀ j x, slot e j = some x → slot e' j = some x) : Sim K F α e μ σ H :=
 ⟨S.st, fun i x g => S.sl i x (h i x g), by rw [hl]; exact S.len⟩
end
section
variable {X : Cx} {elt iter tg : Expr} {ifs : List Expr} {scope : Scope} {pos : Pos} {N' : List Str} {mp : List (Option Nat)} {di : DI} {b : BD} {dc d : D}
noncomputable def Leaves (mp : List (Option Nat)) (b : BD) : Prop := ∀ t e e1, b t (ini mp e) = some e1 → (ini mp e).length = e1.length ∧ ∀ j x, slot (ini mp e) j = some x → slot e1 j = some x
theorem slot_set_ne {e : Slots} {i j : Nat} {x : SV} (h : i ≠ j) : slot (e.set i (some x)) j = slot e j := by
 unfold slot
 rw [List.getElem?_set_ne h]
theorem leaves_name {i : Nat} (h : mp[i]? = some none) : Leaves mp (bName i) := fun t e e1 hb => by
 cases hb
 refine ⟨by rw [List.length_set], fun j x hx => ?_⟩
 obtain ⟨k, hk, _⟩ := slot_ini hx
 rw [slot_set_ne (fun q => by subst q; rw [h] at hk; cases hk)]; exact hx
theorem pifs_true {X' : Cx} : PIfs X' [] (tDT X' (dC (.bl true))) := fun pins s σ H Q I hX11_ => by
 obtain ⟨F, α, e, μ, S, h⟩ := hX11_
 obtain ⟨b, hb, h⟩ := h
 cases hb
 exact pifs_nil pins s σ H Q I (h H F α Ex.refl S)
noncomputable def oD (K : PySem.W.Frag) (d : D) : TE := fun σ H Q => ∃ F α e μ x μ', Sim K F α e μ σ H ∧ d e μ = .ok x μ' ∧ Post K F α H e σ Q x μ'
noncomputable def oDT (K : PySem.W.Frag) (d : D) : TT := fun σ H Q => ∃ F α e μ b μ', Sim K F α e μ σ H ∧ d e μ = .ok (.val (.bl b)) μ' ∧
 ∀ H' F' α', Ex F α H F' α' H' → Sim K F' α' e μ' σ H' → Q b H'
theorem oD_of {X' : Cx} {σ : L2.St} {H : Hp} {Q : VK} (h : oD X'.K d σ H Q) : tD X' d σ H Q := by
 obtain ⟨F, α, e, μ, x, μ', S, h, p⟩ := h
 exact ⟨F, α, e, μ, S, by rw [h]; exact p⟩
theorem oDT_of {X' : Cx} {σ : L2.St} {H : Hp} {Q : Bool → Hp → Prop} (h : oDT X'.K d σ H Q) : tDT X' d σ H Q := by
 obtain ⟨F, α, e, μ, b, μ', S, h, p⟩ := h
 exact ⟨F, α, e, μ, S, by rw [h]; exact ⟨b, rfl, p⟩⟩
inductive CIv (K : PySem.W.Frag) (same : Store → Prop) (items : List T) (b : BD) (dc d : D) (e0 : Slots) (us : List T) (μ' : Store) (F1 : Hp) (α1 : List Addr) (H1 : Hp) (p : Addr) (i : Nat) (σ' : L2.St) (Hc : Hp) : Prop
 | mk (F2 : Hp) (α2 : List Addr) (μ3 : Store) (done rest : List T) (vs : List V) (x2 : Ex F1 α1 H1 F2 α2 Hc) (S2 : Sim K F2 α2 e0 μ3 σ' Hc) (n1 : F2 p = none) (n2 : p ∉ α2) (hv : Hc p = some (.lst vs)) (hr : RepL K F2 done vs) (hdl : done.length ≤ i) (hL : compL same b dc d e0 (items.drop i) μ3 = .ok rest μ') (hu : us = done ++ rest)
theorem comp_read {σ : L2.St} {H : Hp} {Q : VK} (hb : Leaves mp b) (h : tF X (dComp di mp b dc d) σ H Q) : tDI X di σ H fun J H1 => tLoop J mp (tBd X.K b) (oDT X.K dc) (oD X.K d) σ H1 Q := by
 obtain ⟨F, α, e, μ, S, h⟩ := h
 refine ⟨F, α, e, μ, S, (R.wp_bind h).mono (fun W μ1 h J H1 F1 α1 x1 S1 ok => ?_) fun _ _ h => h⟩
 cases hL : (compL W.same b dc d (ini mp e) W.items μ1).calm with
 | err c μ' => cases q : compL W.same b dc d (ini mp e) W.items μ1 <;> rw [q] at hL <;> cases hL
 | bad => rw [hL] at h; exact h.elim
 | ok us μ' =>
 rw [hL] at h
 have hL := R.calm_eq hL
 rw [R.bind_ok] at h
 by_cases hz : W.items.length ≤ szL
 ·rw [if_pos hz] at h
  obtain ⟨t, et, post⟩ := h
  cases et
  intro p hp
  refine ⟨fun i m σ' Hc => m = W.items.length - i ∧ i ≤ W.items.length ∧ CIv X.K W.same W.items b dc d (ini mp e) us μ' F1 α1 H1 p i σ' Hc,
   ⟨_, rfl, Nat.zero_le _, .mk F1 α1 μ1 [] us [] (Ex.lay hp) ((S1.ini mp).of (Same.refl _) (List.prefix_refl _) (S1.st.lay hp)) (S1.st.ext.free hp) (not_mem_of_none S1.st hp) upd_same RepL.nil' (Nat.zero_le _) hL rfl⟩, ?_⟩
  rintro i m σ2 H2 ⟨rfl, hi', hC⟩
  obtain ⟨F2, α2, μ3, done, rest, vs, x2, S2, n1, n2, hv, hr, hdl, hL, hu⟩ := hC
  by_cases hlt : i < W.items.length
  ·rw [List.drop_eq_getElem_cons hlt] at hL
   unfold compL at hL
   by_cases hs : W.same μ3
   ·rw [if_pos hs] at hL
    obtain ⟨g1, g2⟩ := ok F2 α2 μ3 H2 x2.same x2.pre S2.st hs
    obtain ⟨go, yl⟩ := g1 i W.items[i] (by simp [hlt])
    cases hb' : b W.items[i] (ini mp e) with
    | none => simp only [hb'] at hL; cases hL
    | some e3 =>
     simp only [hb'] at hL
     obtain ⟨y0, μ4, hy, hL⟩ := R.bind_eq_ok hL
     have hy := R.calm_eq hy
     obtain ⟨k, μ5, hk, hK⟩ := R.bind_eq_ok hL
     obtain ⟨hk1, hk2⟩ := R.lift_eq_ok hk
     subst hk2
     have ek := asB_eq hk1
     rw [ek] at hy
     clear hL hk hk1 ek
     obtain ⟨hl3, hb3⟩ := hb _ _ _ hb'
     refine .inr ⟨go, CIv X.K W.same W.items b dc d (ini mp e) us μ' F1 α1 H1 p (i + 1), fun σ' H' q => ⟨W.items.length - (i + 1), by lia, rfl, hlt, q⟩, fun x H3 yy => ?_⟩
     obtain ⟨F3, gr, rp⟩ := yl x H3 yy
     have x3 : Ex F2 α2 H2 F3 α2 H3 := gr.ex S2.st.ext
     refine ⟨F3, α2, ini mp e, μ3, W.items[i], e3, S2.grow gr, rp, hb', fun σ4 S4 => ?_⟩
     refine ⟨F3, α2, e3, μ3, k, μ4, S4, hy, fun H5 F5 α5 x5 S5 => ?_⟩
     obtain ⟨v3, n3, m3⟩ := x3.fr p _ hv n1 n2
     obtain ⟨v5, n5, m5⟩ := x5.fr p _ v3 n3 m3
     cases k with
     | false =>
      rw [if_neg Bool.false_ne_true] at hK ⊢
      exact .mk F5 α5 μ4 done rest vs (x2.trans (x3.trans x5)) (S5.back hl3 hb3) n5 m5 v5 (RepL.mono (x3.same.trans x5.same) _ _ hr) (Nat.le_succ_of_le hdl) hK hu
     | true =>
      rw [if_pos rfl] at hK ⊢
      obtain ⟨y2, μ6, hd, hK⟩ := R.bind_eq_ok hK
      have hd := R.calm_eq hd
      obtain ⟨u, μ7, hfz, hK⟩ := R.bind_eq_ok hK
      obtain ⟨us', μ8, hL2, hK⟩ := R.bind_eq_ok hK
      cases hK
      refine ⟨F5, α5, e3, μ4, y2, μ6, S5, hd, fun v H6 F6 α6 x6 S6 o6 => ?_⟩
      obtain ⟨v6, n6, m6⟩ := x6.fr p _ v5 n5 m5
      obtain ⟨F7, s7, ne7, S7, r7⟩ := frz_ok S6.st o6 hfz
      have hvl : vs.length < sizeLine := by
       have := hr.length
       have hz' : W.items.length ≤ sizeLine := hz
       lia
      have n7 : F7 p = none := by rw [ne7 p m6]; exact n6
      have x7 : Ex F1 α1 H1 F7 α6 H6 := x2.trans (x3.trans (x5.trans (x6.trans (Ex.of_ne s7 ne7))))
      refine ⟨p, vs, v, rfl, rfl, v6, hvl, .mk F7 α6 μ7 (done ++ [u]) us' (vs ++ [v]) (x7.poke hp) ?_ n7 m6 upd_same ?_ ?_ hL2 ?_⟩
      ·exact ((S6.back hl3 hb3).of s7 (List.prefix_refl _) S7).of (Same.refl _) (List.prefix_refl _) (S7.poke n7 m6)
      ·exact (RepL.mono (x3.same.trans (x5.same.trans (x6.same.trans s7))) _ _ hr).append (RepL.one r7)
      ·rw [List.length_append, List.length_singleton]; lia
      ·rw [hu, List.append_assoc]; rfl
   ·rw [if_neg hs] at hL; cases hL
  ·have e1 : i = W.items.length := by lia
   subst e1
   rw [List.drop_length] at hL
   unfold compL at hL
   by_cases hs : W.same μ3
   ·rw [if_pos hs] at hL
    cases hL
    obtain ⟨g1, g2⟩ := ok F2 α2 _ H2 x2.same x2.pre S2.st hs
    refine .inl ⟨g2, post p H2 F2 α2 (x1.trans x2) (S1.of x2.same x2.pre S2.st) (x1.was S1.st hp) n1 n2 ⟨vs, hv, ?_⟩⟩
    rw [hu, List.append_nil]; exact hr
   ·rw [if_neg hs] at hL; cases hL
 ·rw [if_neg hz] at h; exact h.elim
theorem dComp_val {e : Slots} {μ μ' : Store} {x : SV} (h : dComp di mp b dc d e μ = .ok x μ') : ∃ t, x = .val t := by
 unfold dComp at h
 obtain ⟨W, μ1, hW, h⟩ := R.bind_eq_ok h
 obtain ⟨us, μ2, hL, h⟩ := R.bind_eq_ok h
 by_cases hz : W.items.length ≤ szL
 ·rw [if_pos hz] at h; cases h; exact ⟨_, rfl⟩
 ·rw [if_neg hz] at h; cases h
theorem PIfs.imp {X' : Cx} {cs : List Expr} {t t' : TT} (h : PIfs X' cs t) (i : ∀ σ H Q, t' σ H Q → t σ H Q) : PIfs X' cs t' := fun pins s σ H Q I q => h pins s σ H Q I (i σ H Q q)
theorem cf_comp (hx : X.xe = fun _ _ => False) (hS : CompScope X N' scope mp) (hcalm : X.calm = true) (hb : Leaves mp b) (hi : CI X tg iter di) (hg : ∀ cl C s₀ H₀ ex, CB (compCx X N' scope cl C s₀ H₀ ex) tg b)
  (hc : ∀ cl C s₀ H₀ ex, PIfs (compCx X N' scope cl C s₀ H₀ ex) ifs (tDT (compCx X N' scope cl C s₀ H₀ ex) dc)) (he : ∀ cl C s₀ H₀ ex, CE (compCx X N' scope cl C s₀ H₀ ex) elt d) (hs : ∀ x, foldedSetIterable iter X.env x = pure x := by intro _; rfl) :
  CF X (.ListComp elt [⟨tg, iter, ifs, 0⟩] scope pos) (dComp di mp b dc d) :=
 ⟨PE.imp (pe_comp hx hS hcalm hi (g := tBd X.K b) hg (fun cl C s₀ H₀ ex => PIfs.imp (hc cl C s₀ H₀ ex) fun σ H Q q => oDT_of (X' := compCx X N' scope cl C s₀ H₀ ex) q) (te := oD X.K d) (fun cl C s₀ H₀ ex => PE.imp (he cl C s₀ H₀ ex) fun σ H Q q => oD_of (X' := compCx X N' scope cl C s₀ H₀ ex) q) hs) fun σ H Q q => comp_read hb q, fun _ _ _ _ h => dComp_val h⟩
end
noncomputable def spD (K : PySem.W.Frag) (fn : FN) (n : Nat) : Sp := fun vs H Q _ => vs.length = n ∧ ∃ F α μ xs r μ', StOk K F α μ H ∧ Paired (fun v x => SvOk K F α v x) vs xs ∧ fn xs μ = .ok r μ' ∧
 ∀ v H' F' α', Ex F α H F' α' H' → StOk K F' α' μ' H' → SvOk K F' α' v r → Q v H'
section
variable {X : Cx} {f : Addr} {fd : FuncData} {ps : List Str} {x : Str} {p pos : Pos} {e : Expr} {es : List Expr} {ds : List D} {fn : FN} {k : Nat}
theorem call_read {σ : L2.St} {H : Hp} {Q : VK} (hl : ds.length = ps.length) (h : tD X (dCall (cal fn) ds) σ H Q) : tCall (spD X.K fn ps.length) [] E0 (tDA X ds) σ H Q := by
 obtain ⟨F, α, e, μ, S, h⟩ := h
 refine ⟨F, α, e, μ, S, (dArgs_wp_len (R.wp_bind h)).mono (fun xs μ1 hX11_ vs H1 F1 α1 x1 S1 o1 => ?_) fun _ _ h => h⟩
 obtain ⟨hn, h⟩ := hX11_
 show spD X.K fn ps.length (vs ++ []) H1 Q E0
 rw [List.append_nil]
 have h : ((fn xs μ1).calm).wp (Post X.K F α H e σ Q) (XPost X F α H e) := h
 cases q : fn xs μ1 with
 | err c μ2 => rw [q] at h; exact h.elim
 | bad => rw [q] at h; exact h.elim
 | ok r μ2 =>
  rw [q] at h
  exact ⟨by rw [o1.length, hn, hl], F1, α1, μ1, xs, r, μ2, S1.st, o1, q, fun v H2 F2 α2 x2 S2 o2 => h v H2 F2 α2 (x1.trans x2) (S1.of x2.same x2.pre S2) o2⟩
theorem ce_call (G : FnOk X.prog X.w X.K X.mg X.base CX0 k f fd ps (spD X.K fn ps.length)) (hr : Room k X.A) (hm : X.mg x = some (.ref f)) (hk : PySem.W.keepIn X.K (.ref f) = true) (hb : Binds X.K fd ps []) (ha : CA X (e :: es) ds)
  (hl : ds.length = ps.length := by rfl) (hg : Gl X x := by rfl) (hdb : (x == ("__debug__" : Str)) = false := by decide) (he : starEach (e :: es) X.env = (false, eval e X.env) :: starEach es X.env := by rfl) (hpl : (backTo pos (starEach es X.env)).any (·.1) = false := by rfl) :
  CE X (.Call (.Name x p) (e :: es) [] pos) (dCall (cal fn) ds) := PE.imp (pe_call G hr hg hm hk hb .nil pass0 ha hdb he hpl) fun σ H Q q => call_read hl q
theorem ce_blt1 {id : String} {r : List V → Hp → VK → Prop} {g : T → Option T} {d : D} (hc : CallR X (.builtin id) r) (hs : CallSem1 X.K r g) (hm : X.mg x = none) (hv : bootBuiltins x = some (.builtin id)) (ha : CE X e d) (hg : Gl X x := by rfl) (hn : x ≠ "__name__" := by decide)
  (hdb : (x == ("__debug__" : Str)) = false := by decide) (hs1 : starEach [e] X.env = (false, eval e X.env) :: starEach [] X.env := by rfl) (hpl : (backTo pos (starEach [] X.env)).any (·.1) = false := by rfl) : CE X (.Call (.Name x p) [e] [] pos) (dUn g d) :=
 PE.imp (pe_callB hc hg hm hv (ca_cons ha ca_nil hs1) hn hdb hs1 hpl) (call1 hs)
theorem ce_ty1 {id : String} {r : List V → Hp → VK → Prop} {g : T → Option T} {d : D} (hc : CallR X (.type id) r) (hs : CallSem1 X.K r g) (hm : X.mg x = none) (hv : bootBuiltins x = some (.type id)) (ha : CE X e d) (hg : Gl X x := by rfl) (hn : x ≠ "__name__" := by decide)
  (hdb : (x == ("__debug__" : Str)) = false := by decide) (hs1 : starEach [e] X.env = (false, eval e X.env) :: starEach [] X.env := by rfl) (hpl : (backTo pos (starEach [] X.env)).any (·.1) = false := by rfl) : CE X (.Call (.Name x p) [e] [] pos) (dUn g d) :=
 PE.imp (pe_callTy hc hg hm hv (ca_cons ha ca_nil hs1) hn hdb hs1 hpl) (call1 hs)
theorem cf_ty1 {id : String} {r : List V → Hp → VK → Prop} {g : T → Option T} {d : D} (hc : CallR X (.type id) r) (hs : CallSemF X.K r g) (hm : X.mg x = none) (hv : bootBuiltins x = some (.type id)) (ha : CE X e d) (hg : Gl X x := by rfl) (hn : x ≠ "__name__" := by decide)
  (hdb : (x == ("__debug__" : Str)) = false := by decide) (hs1 : starEach [e] X.env = (false, eval e X.env) :: starEach [] X.env := by rfl) (hpl : (backTo pos (starEach [] X.env)).any (·.1) = false := by rfl) : CF X (.Call (.Name x p) [e] [] pos) (dUn g d) :=
 ⟨PE.imp (pe_callTy hc hg hm hv (ca_cons ha ca_nil hs1) hn hdb hs1 hpl) (call1F hs), fun _ _ _ _ h => dUn_val h⟩
end
inductive Md where
 | V | D | K
noncomputable def Md.fn : Md → Nat → DS → FN
 | .V => fnV
 | .D => fnD
 | .K => fnK
section
variable {P : Program} {w : World} {K : PySem.W.Frag} {mg : Str → Option Value} {base : Heap}
theorem sim_start {F H : Hp} {α : List Addr} {μ : Store} {N : List Str} {vs : List V} {xs : List SV} (S : StOk K F α μ H) (o : Paired (fun v x => SvOk K F α v x) vs xs) : Sim K F α (starts N.length xs) μ (L2.start N vs) H := by
 unfold starts
 have hl := o.length
 refine ⟨S, fun i x h => ?_, by unfold L2.start; simp [hl]⟩
 have get : ∀ {vs : List V} {xs : List SV} {i : Nat} {x : SV}, Paired (fun v x => SvOk K F α v x) vs xs → xs[i]? = some x → ∃ v, vs[i]? = some v ∧ SvOk K F α v x := fun {vs} => by
  intro xs i x o
  induction o generalizing i with
  | nil => intro e; simp at e
  | cons r _ ih =>
   intro e
   cases i with
   | zero => simp at e; subst e; exact ⟨_, rfl, r⟩
   | succ i =>
    obtain ⟨v, h1, h2⟩ := ih (i := i) (by simpa using e)
    exact ⟨v, by simpa using h1, h2⟩
 unfold slot at h
 by_cases hi : i < xs.length
 ·rw [List.getElem?_append_left (by simpa using hi), List.getElem?_map] at h
  cases q : xs[i]? with
  | none => rw [q] at h; cases h
  | some y =>
   rw [q] at h
   cases h
   obtain ⟨v, h1, h2⟩ := get o q
   refine ⟨v, ?_, h2⟩
   unfold L2.start
   rw [List.getElem?_append_left (by simpa [hl] using hi), List.getElem?_map, h1]
   rfl
 ·rw [List.getElem?_append_right (by simpa using hi), List.getElem?_replicate] at h
  split at h <;> rename_i q
  ·split at q <;> cases q
  ·cases h
theorem fn_ok {x qual : Str} {st : Stmt} {f : Addr} {fd : FuncData} {N ps : List Str} {k : Nat} {d : DS} (md : Md) (F : Fun K x qual st f fd) (S : FnScope N ps (defScope st))
  (hb : ∀ (cdv : Value) (A : Around) (outer : List Env) (s : Shared) (H : Hp) (E : XK), Room k (A.deeper (envOfC qual (defScope st) s.heap.objs.size f cdv)) → CSs (cxOf CX0 P w K mg base N qual (defScope st) f cdv A outer s H E).nox (defBody st) d) :
  FnOk P w K mg base CX0 (k + 1) f fd ps (spD K (md.fn N.length d) ps.length) := by
 refine F.ok S (fun vs H Q E h => h.1) fun cdv A outer s H vs Q E hr h => ⟨_, hb cdv A outer s H E hr, ?_⟩
 obtain ⟨hl, F0, α, μ, xs, r, μ', S0, o, h, post⟩ := h
 refine ⟨F0, α, _, μ, sim_start S0 o, ?_⟩
 have fin : ∀ {y : SV} {μ1 : Store} {v : V} {H1 F1 : Hp} {α1 : List Addr}, (match md with
   | .V => ice μ.length y μ1
   | .D => gc μ.length y μ1
   | .K => .ok y μ1) = .ok r μ' → Ex F0 α H F1 α1 H1 → StOk K F1 α1 μ1 H1 → SvOk K F1 α1 v y → Q v H1 := fun {y μ1 v H1 F1 α1} hg x1 S1 o1 => by
  cases md with
  | V =>
   obtain ⟨F2, g1, g2, g3, g4⟩ := ice_ok S0.len x1.pre S1 o1 hg
   exact post v H1 F2 α ⟨x1.same.trans g1, List.prefix_refl _, fun b z h1 h2 h3 => let ⟨a1, a2, a3⟩ := x1.fr b z h1 h2 h3; ⟨a1, by rw [g2 b a3]; exact a2, h3⟩⟩ g3 g4
  | D =>
   obtain ⟨γ, g1, g2, g3, g4⟩ := gc_ok S0.len x1.pre S1 o1 hg
   exact post v H1 F1 γ ⟨x1.same, g1, fun b z h1 h2 h3 => let ⟨a1, a2, a3⟩ := x1.fr b z h1 h2 h3; ⟨a1, a2, fun hm => a3 (g2 b hm)⟩⟩ g3 g4
  | K =>
   cases hg
   exact post v H1 F1 α1 x1 S1 o1
 cases q : d (starts N.length xs) μ with
 | rt y μ1 => exact fun v H1 F1 α1 x1 S1 o1 => fin (by cases md <;> (simp only [Md.fn, fnV_is, fnD_is, fnK_is, q] at h; exact h)) x1 S1 o1
 | nx e1 μ1 => exact fun σ1 H1 F1 α1 x1 S1 => fin (y := .val .non) (by cases md <;> (simp only [Md.fn, fnV_is, fnD_is, fnK_is, q] at h; exact h)) x1 S1.st (Rep.non' (K := K) (F := F1))
 | bk e1 μ1 => cases md <;> (simp only [Md.fn, fnV_is, fnD_is, fnK_is, q] at h; cases h)
 | ct e1 μ1 => cases md <;> (simp only [Md.fn, fnV_is, fnD_is, fnK_is, q] at h; cases h)
 | err c e1 μ1 => cases md <;> (simp only [Md.fn, fnV_is, fnD_is, fnK_is, q] at h; cases h)
 | bad => cases md <;> (simp only [Md.fn, fnV_is, fnD_is, fnK_is, q] at h; cases h)
theorem fn_none {f : Addr} {fd : FuncData} {ps : List Str} : FnOk P w K mg base CX0 0 f fd ps (spD K (fun _ _ => .bad) ps.length) :=
 ⟨fun vs H Q E h => h.1, fun A outer s H args us vs Q E _ _ _ _ h => by obtain ⟨_, _, _, _, _, _, _, _, _, h, _⟩ := h; cases h⟩
end
end Fw
namespace Fw
open PySem
section
variable {α : Type} {μ : List α} {a b c x : α} {l : List α}
@[simp] theorem st_get0 : (μ ++ a :: l)[μ.length]? = some a := by simp
@[simp] theorem st_get1 : (μ ++ a :: b :: l)[μ.length + 1]? = some b := by simp [List.getElem?_append_right]
@[simp] theorem st_get2 : (μ ++ a :: b :: c :: l)[μ.length + 2]? = some c := by simp [List.getElem?_append_right]
@[simp] theorem st_set0 : (μ ++ a :: l).set μ.length x = μ ++ x :: l := by simp
@[simp] theorem st_set2 : (μ ++ a :: b :: c :: l).set (μ.length + 2) x = μ ++ a :: b :: x :: l := by simp [List.set_append]
end
@[simp] theorem rd_cel (μ : Store) (k : Nat) : rd μ (.cel k) = (μ[k]?).map (·.2) := (rfl)
theorem frz_at {μ : Store} {k : Nat} {b : Bool} {t : T} (h : μ[k]? = some (b, t)) : frz (.cel k) μ = .ok t (μ.set k (false, t)) := by
 unfold frz; simp only [h]
@[simp] theorem frz_st0 (μ l : Store) (b : Bool) (t : T) : frz (.cel μ.length) (μ ++ (b, t) :: l) = .ok t (μ ++ (false, t) :: l) := by
 rw [frz_at (b := b) (t := t) (by simp)]; simp
@[simp] theorem ice_val (n : Nat) (t : T) (μ : Store) : ice n (.val t) μ = .ok (.val t) (μ.take n) := (rfl)
@[simp] theorem ice_st0 (μ l : Store) (b : Bool) (t : T) : ice μ.length (.cel μ.length) (μ ++ (b, t) :: l) = .ok (.val t) μ := by unfold ice; simp
@[simp] theorem lsts_st0 (μ l : Store) (b : Bool) (ts : List T) : lsts (.cel μ.length) (μ ++ (b, .lst ts) :: l) = some () := lsts_at (b := b) (ts := ts) (by simp)
theorem append_at {μ : Store} {k : Nat} {ts : List T} {t : T} (h : μ[k]? = some (true, .lst ts)) (hl : ts.length < szL) : appendAt (.cel k) t μ = some (μ.set k (true, .lst (ts ++ [t]))) := by
 unfold appendAt; simp only [h]; rw [if_pos hl]
theorem append_st0 (μ l : Store) (ts : List T) (t : T) (hl : ts.length < szL) : appendAt (.cel μ.length) t (μ ++ (true, .lst ts) :: l) = some (μ ++ (true, .lst (ts ++ [t])) :: l) := by
 rw [append_at (ts := ts) (by simp) hl]; simp
theorem setAt_at {μ : Store} {k : Nat} {ts : List T} {t : T} {i : Int} (h : μ[k]? = some (true, .lst ts)) (h0 : 0 ≤ i) (h1 : i < ts.length) : setAt (.cel k) (.int i) t μ = some (μ.set k (true, .lst (ts.set i.toNat t))) := by
 unfold setAt; simp only [h]; unfold ixN; rw [if_pos h0, if_pos h1]; rfl
@[simp] theorem starts_is (m : Nat) (xs : List SV) : starts m xs = xs.map some ++ List.replicate (m - xs.length) none := (rfl)
theorem atI_nat {α : Type} {xs : List α} {i : Int} (h0 : 0 ≤ i) : atI xs i = xs[i.toNat]? := by
 unfold atI ixN
 rw [if_pos h0]
 by_cases h : i < xs.length
 ·rw [if_pos h]; rfl
 ·rw [if_neg h]
  exact (List.getElem?_eq_none (by lia)).symm
theorem atI_map {α β : Type} {xs : List α} {f : α → β} {i : Int} (h0 : 0 ≤ i) (h1 : i < xs.length) : atI (xs.map f) i = some (f (xs[i.toNat]'(by lia))) := by
 rw [atI_nat h0, List.getElem?_map, List.getElem?_eq_getElem (by lia)]; rfl
@[simp] theorem atI_zero {α : Type} (x : α) (xs : List α) : atI (x :: xs) 0 = some x := by rw [atI_nat (by lia)]; rfl
@[simp] theorem atI_one {α : Type} (x y : α) (xs : List α) : atI (x :: y :: xs) 1 = some y := by rw [atI_nat (by lia)]; rfl
@[simp] theorem atI_two {α : Type} (x y z : α) (xs : List α) : atI (x :: y :: z :: xs) 2 = some z := by rw [atI_nat (by lia)]; rfl
noncomputable def irange (lo : Int) (n : Nat) : List Int := (List.range n).map fun (k : Nat) => lo + (k : Int)
theorem intsT_eq (lo : Int) (n : Nat) : intsT lo n = (irange lo n).map T.int := by
 unfold irange
 induction n generalizing lo with
 | zero => rfl
 | succ n ih =>
  rw [intsT, ih (lo + 1), List.range_succ_eq_map]
  simp only [List.map_cons, List.map_map]
  congr 1
  ·simp
  ·apply List.map_congr_left
   intro k _
   simp only [Function.comp]
   congr 1
   lia
@[simp] theorem irange_length (lo : Int) (n : Nat) : (irange lo n).length = n := by simp [irange]
theorem mem_irange {lo : Int} {n : Nat} {k : Int} : k ∈ irange lo n ↔ lo ≤ k ∧ k < lo + n := by
 unfold irange
 rw [List.mem_map]
 constructor
 ·rintro ⟨j, hj, rfl⟩
  rw [List.mem_range] at hj
  lia
 ·rintro ⟨h1, h2⟩
  exact ⟨(k - lo).toNat, by rw [List.mem_range]; lia, by lia⟩
theorem irange_get {lo : Int} {n i : Nat} {k : Int} (h : (irange lo n)[i]? = some k) : i < n ∧ k = lo + i := by
 unfold irange at h
 rw [List.getElem?_map] at h
 by_cases hi : i < n
 ·rw [List.getElem?_range hi] at h
  cases h
  exact ⟨hi, rfl⟩
 ·rw [List.getElem?_eq_none (by simpa using hi)] at h
  cases h
theorem intsT_at {lo : Int} {n i : Nat} {t : T} (h : (intsT lo n)[i]? = some t) : i < n ∧ t = .int (lo + i) := by
 rw [intsT_eq, List.getElem?_map] at h
 cases q : (irange lo n)[i]? with
 | none => rw [q] at h; cases h
 | some k =>
  rw [q] at h
  cases h
  obtain ⟨h1, rfl⟩ := irange_get q
  exact ⟨h1, rfl⟩
theorem intsT_k {lo : Int} {n i : Nat} {t : T} (h : (intsT lo n)[i]? = some t) : ∃ k : Int, t = .int k ∧ i < n ∧ k = lo + i := by
 obtain ⟨h1, rfl⟩ := intsT_at h
 exact ⟨_, rfl, h1, rfl⟩
@[simp] theorem intsT_len (lo : Int) (n : Nat) : (intsT lo n).length = n := by rw [intsT_eq]; simp
theorem fAll_map {α : Type} (g : α → Bool) (xs : List α) : fAll (.lst (xs.map fun k => T.bl (g k))) = some (.bl (xs.all g)) := by
 have e : (xs.map fun k => T.bl (g k)) = (xs.map g).map T.bl := by simp
 rw [e, fAll_bls]; simp [List.all_map]
theorem fAny_map {α : Type} (g : α → Bool) (xs : List α) : fAny (.lst (xs.map fun k => T.bl (g k))) = some (.bl (xs.any g)) := by
 have e : (xs.map fun k => T.bl (g k)) = (xs.map g).map T.bl := by simp
 rw [e, fAny_bls]; simp [List.any_map]
theorem fSum_map {α : Type} (g : α → Int) (xs : List α) : fSum (.lst (xs.map fun k => T.int (g k))) = some (.int (xs.map g).sum) := by
 have e : (xs.map fun k => T.int (g k)) = (xs.map g).map T.int := by simp
 rw [e, fSum_ints]
noncomputable def RS.goes (r : RS) (J : Slots → Store → Prop) (P : RS → Prop) : Prop := match r with
 | .nx e μ => J e μ
 | .ct e μ => J e μ
 | .bk e μ => P (.nx e μ)
 | r => P r
theorem forL_inv {same : Store → Prop} {b : BD} {body : DS} (P : RS → Prop) (I : Nat → Slots → Store → Prop) (hs : ∀ i e μ, I i e μ → same μ) {ts : List T}
  (step : ∀ i t e μ, ts[i]? = some t → I i e μ → ∃ e1, b t e = some e1 ∧ (body e1 μ).goes (I (i + 1)) P) (fin : ∀ e μ, I ts.length e μ → P (.nx e μ)) {e : Slots} {μ : Store} (h : I 0 e μ) : P (forL same b body ts e μ) := by
 have all : ∀ (us : List T) (i : Nat) (e : Slots) (μ : Store), ts.drop i = us → I i e μ → i ≤ ts.length → P (forL same b body us e μ) := by
  intro us
  induction us with
  | nil =>
   intro i e μ hd hI hi
   have hl : ts.length ≤ i := by
    have := congrArg List.length hd
    simp at this
    lia
   have e1 : i = ts.length := by lia
   subst e1
   unfold forL
   rw [if_pos (hs _ _ _ hI)]
   exact fin e μ hI
  | cons t us ih =>
   intro i e μ hd hI hi
   have hlt : i < ts.length := by
    have := congrArg List.length hd
    simp at this
    lia
   have hg : ts[i]? = some t := by
    have : (ts.drop i)[0]? = some t := by rw [hd]; rfl
    rw [List.getElem?_drop] at this
    simpa using this
   have hd' : ts.drop (i + 1) = us := by
    rw [← List.tail_drop, hd]; rfl
   obtain ⟨e1, h1, h2⟩ := step i t e μ hg hI
   unfold forL
   rw [if_pos (hs _ _ _ hI)]
   simp only [h1]
   cases q : body e1 μ with
   | nx e2 μ2 => rw [q] at h2; exact ih (i + 1) e2 μ2 hd' h2 hlt
   | ct e2 μ2 => rw [q] at h2; exact ih (i + 1) e2 μ2 hd' h2 hlt
   | bk e2 μ2 => rw [q] at h2; exact h2
   | rt x μ2 => rw [q] at h2; exact h2
   | err c e2 μ2 => rw [q] at h2; exact h2
   | bad => rw [q] at h2; exact h2
 exact all ts 0 e μ rfl h (Nat.zero_le _)
theorem forL_nx {same : Store → Prop} {b : BD} {body : DS} (I : Nat → Slots → Store → Prop) (hs : ∀ i e μ, I i e μ → same μ) {ts : List T}
  (step : ∀ i t e μ, ts[i]? = some t → I i e μ → ∃ e1 e2 μ2, b t e = some e1 ∧ body e1 μ = .nx e2 μ2 ∧ I (i + 1) e2 μ2) {e : Slots} {μ : Store} (h : I 0 e μ) : ∃ e' μ', forL same b body ts e μ = .nx e' μ' ∧ I ts.length e' μ' :=
 forL_inv (P := fun r => ∃ e' μ', r = .nx e' μ' ∧ I ts.length e' μ') I hs (fun i t e μ ht hI => by
  obtain ⟨e1, e2, μ2, h1, h2, h3⟩ := step i t e μ ht hI
  exact ⟨e1, h1, by rw [h2]; exact h3⟩) (fun e μ hI => ⟨e, μ, rfl, hI⟩) h
theorem compL_ints {same : Store → Prop} {b : BD} {c d : D} {e : Slots} {μ : Store} (p : Int → Bool) (g : Int → T) (hs : same μ) (ns : List Int)
  (h : ∀ n ∈ ns, ∃ e1, b (.int n) e = some e1 ∧ c e1 μ = .ok (.val (.bl (p n))) μ ∧ (p n = true → d e1 μ = .ok (.val (g n)) μ)) : compL same b c d e (ns.map T.int) μ = .ok ((ns.filter p).map g) μ := by
 induction ns with
 | nil => unfold compL; rw [List.map_nil]; simp only; rw [if_pos hs]; rfl
 | cons n ns ih =>
  obtain ⟨e1, h1, h2, h3⟩ := h n List.mem_cons_self
  have ih := ih fun u hu => h u (List.mem_cons_of_mem _ hu)
  rw [List.map_cons]
  unfold compL
  rw [if_pos hs]
  simp only [h1, h2, R.calm_ok, R.bind_ok, asB_bl, R.lift_some]
  cases q : p n with
  | true => rw [if_pos rfl, h3 q]; simp [q, ih]
  | false => rw [if_neg Bool.false_ne_true, ih]; simp [q]
theorem compL_all {same : Store → Prop} {b : BD} {d : D} {e : Slots} {μ : Store} (g : Int → T) (hs : same μ) (ns : List Int)
  (h : ∀ n ∈ ns, ∃ e1, b (.int n) e = some e1 ∧ d e1 μ = .ok (.val (g n)) μ) : compL same b (dC (.bl true)) d e (ns.map T.int) μ = .ok (ns.map g) μ := by
 have := compL_ints (same := same) (b := b) (c := dC (.bl true)) (d := d) (e := e) (μ := μ) (fun _ => true) g hs ns fun n hn => by
  obtain ⟨e1, h1, h2⟩ := h n hn
  exact ⟨e1, h1, rfl, fun _ => h2⟩
 rw [this]
 congr 2
 exact List.filter_eq_self.mpr fun _ _ => rfl
theorem compL_of {α : Type} {same : Store → Prop} {b : BD} {c d : D} {e : Slots} {μ : Store} (f : α → T) (p : α → Bool) (g : α → T) (hs : same μ) (as : List α)
  (h : ∀ a ∈ as, ∃ e1, b (f a) e = some e1 ∧ c e1 μ = .ok (.val (.bl (p a))) μ ∧ (p a = true → d e1 μ = .ok (.val (g a)) μ)) : compL same b c d e (as.map f) μ = .ok ((as.filter p).map g) μ := by
 induction as with
 | nil => unfold compL; rw [List.map_nil]; simp only; rw [if_pos hs]; rfl
 | cons n ns ih =>
  obtain ⟨e1, h1, h2, h3⟩ := h n List.mem_cons_self
  have ih := ih fun u hu => h u (List.mem_cons_of_mem _ hu)
  rw [List.map_cons]
  unfold compL
  rw [if_pos hs]
  simp only [h1, h2, R.calm_ok, R.bind_ok, asB_bl, R.lift_some]
  cases q : p n with
  | true => rw [if_pos rfl, h3 q]; simp [q, ih]
  | false => rw [if_neg Bool.false_ne_true, ih]; simp [q]
theorem compL_ofA {α : Type} {same : Store → Prop} {b : BD} {d : D} {e : Slots} {μ : Store} (f : α → T) (g : α → T) (hs : same μ) (as : List α)
  (h : ∀ a ∈ as, ∃ e1, b (f a) e = some e1 ∧ d e1 μ = .ok (.val (g a)) μ) : compL same b (dC (.bl true)) d e (as.map f) μ = .ok (as.map g) μ := by
 have := compL_of (same := same) (b := b) (c := dC (.bl true)) (d := d) (e := e) (μ := μ) f (fun _ => true) g hs as fun n hn => by
  obtain ⟨e1, h1, h2⟩ := h n hn
  exact ⟨e1, h1, rfl, fun _ => h2⟩
 rw [this]
 congr 2
 exact List.filter_eq_self.mpr fun _ _ => rfl
end Fw
namespace Fw
open PySem
noncomputable def fMin : T → T → Option T
 | .int i, .int j => some (.int (if j < i then j else i))
 | _, _ => none
noncomputable def fMax : T → T → Option T
 | .int i, .int j => some (.int (if j > i then j else i))
 | _, _ => none
@[simp] theorem fMin_int (i j : Int) : fMin (.int i) (.int j) = some (.int (if j < i then j else i)) := (rfl)
@[simp] theorem fMax_int (i j : Int) : fMax (.int i) (.int j) = some (.int (if j > i then j else i)) := (rfl)
noncomputable def asKey : T → Option Key
 | .int i => some (.inl i)
 | .str x => some (.inr x)
 | _ => none
@[simp] theorem asKey_int (i : Int) : asKey (.int i) = some (.inl i) := (rfl)
noncomputable def valT (kts : List (Key × T)) (k : Key) : Option T := (kts.find? fun kv => decide (kv.1 = k)).map (·.2)
noncomputable def putT (kts : List (Key × T)) (k : Key) (t : T) : List (Key × T) :=
 if (kts.any fun kv => decide (kv.1 = k)) = true then kts.map (fun kv => if kv.1 = k then (kv.1, t) else kv) else kts ++ [(k, t)]
noncomputable def putAtD (x : SV) (k : T) (t : T) (μ : Store) : Option Store := match x with
 | .cel c => match μ[c]? with
  | some (true, .dct kts) => (asKey k).bind fun kk => if kts.length < szL then some (μ.set c (true, .dct (putT kts kk t))) else none
  | _ => none
 | _ => none
noncomputable def sPutD (i : Nat) (dk dv : D) : DS := fun e μ => (dv e μ).toS e fun y μ1 => (R.lift (slot e i) μ1).toS e fun x μ1 => (dk e μ1).toS e fun z μ2 => (R.lift (rd μ2 z) μ2).toS e fun k μ2 =>
 (frz y μ2).toS e fun t μ3 => (R.lift (putAtD x k t μ3) μ3).toS e fun μ4 _ => .nx e μ4
@[simp] theorem sPutD_is (i : Nat) (dk dv : D) (e : Slots) (μ : Store) : sPutD i dk dv e μ = (dv e μ).toS e fun y μ1 => (R.lift (slot e i) μ1).toS e fun x μ1 => (dk e μ1).toS e fun z μ2 => (R.lift (rd μ2 z) μ2).toS e fun k μ2 =>
 (frz y μ2).toS e fun t μ3 => (R.lift (putAtD x k t μ3) μ3).toS e fun μ4 _ => .nx e μ4 := (rfl)
theorem putAtD_at {μ : Store} {c : Nat} {kts : List (Key × T)} {i : Int} {t : T} (h : μ[c]? = some (true, .dct kts)) (hl : kts.length < szL) : putAtD (.cel c) (.int i) t μ = some (μ.set c (true, .dct (putT kts (.inl i) t))) := by
 unfold putAtD
 simp only [h, asKey_int, Option.bind_some, hl, if_true]
noncomputable def itemsT (kts : List (Key × T)) : List T := kts.map fun p => .tup [keyT p.1, p.2]
noncomputable def asD : T → Option (List (Key × T))
 | .dct kts => some kts
 | _ => none
noncomputable def iItems (d : D) : DI := fun e μ => (d e μ).bind fun x μ1 => (R.lift ((rd μ1 x).bind asD) μ1).bind fun kts μ1 => .ok ⟨itemsT kts, fun μ' => rd μ' x = rd μ1 x⟩ μ1
@[simp] theorem iItems_is (d : D) (e : Slots) (μ : Store) : iItems d e μ = (d e μ).bind fun x μ1 => (R.lift ((rd μ1 x).bind asD) μ1).bind fun kts μ1 => .ok ⟨itemsT kts, fun μ' => rd μ' x = rd μ1 x⟩ μ1 := (rfl)
end Fw
namespace Fw
open PySem
noncomputable def enumT (i : Int) : List T → List T
 | [] => []
 | t :: ts => .tup [.int i, t] :: enumT (i + 1) ts
theorem enumT_len : ∀ (i : Int) (ts : List T), (enumT i ts).length = ts.length
 | i, [] => rfl
 | i, t :: ts => by simp [enumT, enumT_len (i + 1) ts]
theorem enumT_get : ∀ {i : Int} {ts : List T} {j : Nat} {t : T}, (enumT i ts)[j]? = some t → ∃ a, ts[j]? = some a ∧ t = .tup [.int (i + j), a]
 | i, [], j, t, h => by simp [enumT] at h
 | i, a :: ts, 0, t, h => by simp [enumT] at h; exact ⟨a, rfl, by simp [← h]⟩
 | i, a :: ts, j + 1, t, h => by
  obtain ⟨b, h1, h2⟩ := enumT_get (i := i + 1) (ts := ts) (j := j) (t := t) (by simpa [enumT] using h)
  refine ⟨b, by simpa using h1, ?_⟩
  rw [h2, show i + 1 + (j : Int) = i + ((j + 1 : Nat) : Int) by lia]
noncomputable def iEnum (d : D) : DI := fun e μ => (d e μ).bind fun x μ1 => (R.lift ((rd μ1 x).bind seqItems) μ1).bind fun ts μ1 => .ok ⟨enumT 0 ts, fun μ' => rd μ' x = rd μ1 x⟩ μ1
@[simp] theorem iEnum_is (d : D) (e : Slots) (μ : Store) : iEnum d e μ = (d e μ).bind fun x μ1 => (R.lift ((rd μ1 x).bind seqItems) μ1).bind fun ts μ1 => .ok ⟨enumT 0 ts, fun μ' => rd μ' x = rd μ1 x⟩ μ1 := (rfl)
noncomputable def fBand : T → T → Option T
 | .int i, .int j => if 0 ≤ i ∧ j = 1 then some (.int (i % 2)) else none
 | _, _ => none
@[simp] theorem fBand_one (i : Int) (h : 0 ≤ i) : fBand (.int i) (.int 1) = some (.int (i % 2)) := if_pos ⟨h, rfl⟩
noncomputable def fInt : T → Option T
 | .int i => some (.int i)
 | .bl b => some (.int (if b then 1 else 0))
 | _ => none
@[simp] theorem fInt_int (i : Int) : fInt (.int i) = some (.int i) := (rfl)
@[simp] theorem fInt_bl (b : Bool) : fInt (.bl b) = some (.int (if b then 1 else 0)) := (rfl)
noncomputable def asV : SV → Option T
 | .val t => some t
 | _ => none
@[simp] theorem asV_val (t : T) : asV (.val t) = some t := (rfl)
noncomputable def sUnp (is : List Nat) (d : D) : DS := fun e μ => (d e μ).toS e fun x μ1 => (R.lift ((asV x).bind fun t => bTup is t e) μ1).toS e fun e' μ1 => .nx e' μ1
@[simp] theorem sUnp_is (is : List Nat) (d : D) (e : Slots) (μ : Store) : sUnp is d e μ = (d e μ).toS e fun x μ1 => (R.lift ((asV x).bind fun t => bTup is t e) μ1).toS e fun e' μ1 => .nx e' μ1 := (rfl)
@[simp] theorem bTup_tri (i j k : Nat) (t u v : T) (e : Slots) : bTup [i, j, k] (.tup [t, u, v]) e = some (((e.set i (some (.val t))).set j (some (.val u))).set k (some (.val v))) := (rfl)
noncomputable def clearAt (x : SV) (μ : Store) : Option Store := match x with
 | .cel k => match μ[k]? with
  | some (true, .lst _) => some (μ.set k (true, .lst []))
  | _ => none
 | _ => none
noncomputable def sClear (o : D) : DS := fun e μ => (o e μ).toS e fun x μ0 => (R.lift (clearAt x μ0) μ0).toS e fun μ1 _ => .nx e μ1
@[simp] theorem sClear_is (o : D) (e : Slots) (μ : Store) : sClear o e μ = (o e μ).toS e fun x μ0 => (R.lift (clearAt x μ0) μ0).toS e fun μ1 _ => .nx e μ1 := (rfl)
noncomputable def extendAt (x : SV) (t : T) (μ : Store) : Option Store := match x, t with
 | .cel k, .lst us => match μ[k]? with
  | some (true, .lst ts) => if ts.length + us.length ≤ szL then some (μ.set k (true, .lst (ts ++ us))) else none
  | _ => none
 | _, _ => none
noncomputable def fRev : T → Option T
 | .lst ts => some (.lst ts.reverse)
 | _ => none
@[simp] theorem fRev_lst (ts : List T) : fRev (.lst ts) = some (.lst ts.reverse) := (rfl)
end Fw
namespace Fw
open PySem
noncomputable def sExtend (o d : D) : DS := fun e μ => (o e μ).toS e fun x μ0 => (R.lift (lsts x μ0) μ0).toS e fun _ μ0 => (d e μ0).toS e fun y μ1 => (R.lift ((asV y).bind fun t => extendAt x t μ1) μ1).toS e fun μ2 _ => .nx e μ2
@[simp] theorem sExtend_is (o d : D) (e : Slots) (μ : Store) : sExtend o d e μ = (o e μ).toS e fun x μ0 => (R.lift (lsts x μ0) μ0).toS e fun _ μ0 => (d e μ0).toS e fun y μ1 => (R.lift ((asV y).bind fun t => extendAt x t μ1) μ1).toS e fun μ2 _ => .nx e μ2 := (rfl)
end Fw
namespace Fw
open PySem
end Fw
namespace Fw
open PySem
theorem us_cons {us : List Value} {n : Nat} (h : us.length = n + 1) : ∃ a as, us = a :: as := by
 cases us with
 | nil => cases h
 | cons a as => exact ⟨a, as, rfl⟩
end Fw
namespace Fw
open PySem
noncomputable def plain : List (Sum T Nat) → Option (List T)
 | [] => some []
 | .inl t :: xs => (plain xs).map fun ts => t :: ts
 | .inr _ :: _ => none
end Fw
namespace Fw
open PySem
end Fw
namespace Fw
open PySem
noncomputable def sRaise (n : Str) : DS := fun e μ => .err (.exc n none) e μ
noncomputable def sTry (b : DS) (h : Str → DS) : DS := fun e μ => match b e μ with
 | .err (.exc n none) e' μ' => h n e' μ'
 | .err _ _ _ => .bad
 | r => r
noncomputable def sCalm (d : DS) : DS := fun e μ => match d e μ with
 | .err _ _ _ => .bad
 | r => r
noncomputable def sLess (i : Nat) (r : RS) : RS := match r with
 | .nx e μ => .nx (e.set i none) μ
 | .bk e μ => .bk (e.set i none) μ
 | .ct e μ => .ct (e.set i none) μ
 | r => r
noncomputable def sAs (i : Nat) (n : Str) (d : DS) : DS := fun e μ => sLess i (sCalm d (e.set i (some (.val (.exc n none)))) μ)
noncomputable def dIsG (f : Str → Option Bool) (da : D) : D := fun e μ => (da e μ).bind fun x μ1 => match x with
 | .val (.exc n none) => (match f n with
  | some b => .ok (.val (.bl b)) μ1
  | none => .bad)
 | _ => .bad
noncomputable def isBl (b : Bool) : T → Option T
 | .bl c => some (.bl (c == b))
 | .non => some (.bl false)
 | _ => none
end Fw
namespace Fw
open PySem L2 PyProof.Rows
theorem cs_raise {X : Cx} {x : Str} {C : Addr} {bmB : List Value} {B newId initId : String} {np cpos pos p2 : Pos} {m : Str} {j : Nat} (F : ExcBaseFacts B newId initId bmB) (hc : X.calm = true) (hm : X.mg x = some (.ref C)) (q : PySem.W.excIn X.K C bmB newId = true) (hg : Gl X x := by rfl)
  (hpl : (backTo cpos (starEach [.Constant (.str m) j p2] X.env)).any (·.1) = false := by rfl) (hs : starEach [.Constant (.str m) j p2] X.env = (false, eval (.Constant (.str m) j p2) X.env) :: starEach [] X.env := by rfl) (hd : (x == ("__debug__" : Str)) = false := by decide) :
  CS X (.Raise (some (.Call (.Name x np) [.Constant (.str m) j p2] [] cpos)) none pos) (sRaise x) :=
 PS.imp (ps_raise F hc hg hm q hpl hs hd) fun D σ H ⟨F, α, e, μ, S, h⟩ => fun pins s h' e' vs I hx =>
  h _ _ ⟨pins, σ, H, F, α, Ex.refl, S, x, C, rfl, hm, .inl ⟨hc, s, h', e', vs, I, hx, rfl, rfl⟩⟩
noncomputable def spX (K : PySem.W.Frag) (mg : Str → Option Value) (fn : FN) (n : Nat) : Sp := fun vs H Q E => vs.length = n ∧ ∃ F α μ xs, StOk K F α μ H ∧ Paired (fun v x => SvOk K F α v x) vs xs ∧
 (fn xs μ).wp (fun r μ' => ∀ v H' F' α', Ex F α H F' α' H' → StOk K F' α' μ' H' → SvOk K F' α' v r → Q v H')
  (fun c μ' => ∀ n C, c = .exc n none → mg n = some (.ref C) → ∀ H' F' α', Ex F α H F' α' H' → StOk K F' α' μ' H' → E (.ref C) none H')
section
variable {P : Program} {w : World} {K : PySem.W.Frag} {mg : Str → Option Value} {base : Heap}
theorem fn_okX {x qual : Str} {st : Stmt} {f : Addr} {fd : FuncData} {N ps : List Str} {k : Nat} {d : DS} (F : Fun K x qual st f fd) (S : FnScope N ps (defScope st))
  (hb : ∀ (cdv : Value) (A : Around) (outer : List Env) (s : Shared) (H : Hp) (E : XK), Room k (A.deeper (envOfC qual (defScope st) s.heap.objs.size f cdv)) → CSs (cxOf (CX1 P w) P w K mg base N qual (defScope st) f cdv A outer s H E) (defBody st) d) :
  FnOk P w K mg base (CX1 P w) (k + 1) f fd ps (spX K mg (fnV N.length d) ps.length) := by
 obtain ⟨oc, od, kV, doc, pm, an, cdv, ct, osl, rfl, lk, hcd⟩ := F.ex
 refine fn_of lk hcd S (fun vs H Q E h => h.1) fun A outer s H vs Q E hr h => ⟨_, hb cdv A outer s H E hr, ?_⟩
 obtain ⟨hl, F0, α, μ, xs, S0, o, h⟩ := h
 refine ⟨F0, α, _, μ, sim_start S0 o, ?_⟩
 rw [fnV_is] at h
 have fin : ∀ {y r : SV} {μ1 μ' : Store} {v : V} {H1 F1 : Hp} {α1 : List Addr}, ice μ.length y μ1 = .ok r μ' → Ex F0 α H F1 α1 H1 → StOk K F1 α1 μ1 H1 → SvOk K F1 α1 v y → ∃ F2, Ex F0 α H F2 α H1 ∧ StOk K F2 α μ' H1 ∧ SvOk K F2 α v r := fun {y r μ1 μ' v H1 F1 α1} hg x1 S1 o1 => by
  obtain ⟨F2, g1, g2, g3, g4⟩ := ice_ok S0.len x1.pre S1 o1 hg
  exact ⟨F2, ⟨x1.same.trans g1, List.prefix_refl _, fun b z h1 h2 h3 => let ⟨a1, a2, a3⟩ := x1.fr b z h1 h2 h3; ⟨a1, by rw [g2 b a3]; exact a2, h3⟩⟩, g3, g4⟩
 cases q : d (starts N.length xs) μ with
 | rt y μ1 =>
  intro v H1 F1 α1 x1 S1 o1
  rw [q, endV_rt] at h
  cases hi : ice μ.length y μ1 with
  | ok r μ' =>
   rw [hi] at h
   obtain ⟨F2, a1, a2, a3⟩ := fin hi x1 S1 o1
   exact h v H1 F2 α a1 a2 a3
  | err c μ' =>
   unfold ice at hi
   cases hz : frz y μ1 with
   | ok t μ2 => rw [hz] at hi; cases hi
   | err c2 μ2 => exact absurd hz (frz_no y μ1 c2 μ2)
   | bad => rw [hz] at hi; cases hi
  | bad => rw [hi] at h; exact h.elim
 | nx e1 μ1 =>
  intro σ1 H1 F1 α1 x1 S1
  rw [q] at h
  obtain ⟨F2, a1, a2, a3⟩ := fin (y := .val .non) (r := .val .non) (μ' := μ1.take μ.length) rfl x1 S1.st (Rep.non' (K := K) (F := F1))
  exact h .non H1 F2 α a1 a2 a3
 | bk e1 μ1 => rw [q] at h; exact h.elim
 | ct e1 μ1 => rw [q] at h; exact h.elim
 | bad => rw [q] at h; exact h.elim
 | err c e1 μ1 =>
  rw [q] at h
  rintro ev s' ⟨pins, σ', H', F', α', x1, S1, n, C, rfl, hm, hfly⟩
  obtain ⟨F2, a1, a2, a3⟩ := fin (y := .val .non) (r := .val .non) (μ' := μ1.take μ.length) rfl x1 S1.st (Rep.non' (K := K) (F := F'))
  have hE : E (.ref C) none H' := h n C rfl hm H' F2 α a1 a2
  rcases hfly with ⟨_, s2, h', e, vs', I, hx, rfl, rfl⟩ | ⟨H0, s2, I, hx⟩ | ⟨_, e2, t2, B2, rfl, c2⟩
  ·exact raise_xe I hx hE
  ·exact pass_xe I hx fun cv H'' hX11_ => by obtain ⟨z1, z2⟩ := hX11_; subst z1 z2; exact hE
  ·exact hel_xe c2 hE
end
section
variable {X : Cx} {f : Addr} {fd : FuncData} {ps : List Str} {x : Str} {p pos : Pos} {e : Expr} {es : List Expr} {ds : List D} {fn : FN} {k : Nat}
theorem ce_callX (G : FnOk X.prog X.w X.K X.mg X.base (CX1 X.prog X.w) k f fd ps (spX X.K X.mg fn ps.length)) (hr : Room k X.A) (hm : X.mg x = some (.ref f)) (hk : PySem.W.keepIn X.K (.ref f) = true) (hb : Binds X.K fd ps []) (ha : CA X (e :: es) ds)
  (hl : ds.length = ps.length := by rfl) (hg : Gl X x := by rfl) (hdb : (x == ("__debug__" : Str)) = false := by decide) (he : starEach (e :: es) X.env = (false, eval e X.env) :: starEach es X.env := by rfl) (hpl : (backTo pos (starEach es X.env)).any (·.1) = false := by rfl) :
  CE X (.Call (.Name x p) (e :: es) [] pos) (dCall fn ds) := by
 intro pins s σ H Q I ⟨F, α, e0, μ, S, h⟩
 refine wpAny_Call_Name_kw (ld_glob I hg hm ?_ hdb)
 have hA : tDA X ds σ H (fun vs H1 => ∃ F1 α1 μ1 xs, Ex F α H F1 α1 H1 ∧ Sim X.K F1 α1 e0 μ1 σ H1 ∧ Paired (fun v x => SvOk X.K F1 α1 v x) vs xs ∧ xs.length = ds.length ∧ (fn xs μ1).wp (Post X.K F α H e0 σ Q) (XPost X F α H e0)) :=
  ⟨F, α, e0, μ, S, (dArgs_wp_len (R.wp_bind h)).mono (fun xs μ1 ⟨hn, h⟩ vs H1 F1 α1 x1 S1 o1 => ⟨F1, α1, μ1, xs, x1, S1, o1, hn, h⟩) fun _ _ h => h⟩
 refine PySem.W.callWith_K (h₀ := X.base) I.ok.mod.kin hk (thn (ha pos pins s σ H _ I hA) fun us s1 ⟨vs, H1, I1, r, F1, α1, μ1, xs, x1, S1, o1, hn, hw⟩ => ⟨I1.kIn, ?_⟩) he hpl
 have hlen : us.length = ps.length := by rw [← r.length, o1.length, hn, hl]
 let E : XK := fun cv _ H' => ∃ n C F' α' μ2, cv = .ref C ∧ X.mg n = some (.ref C) ∧ fn xs μ1 = .err (.exc n none) μ2 ∧ Ex F1 α1 H1 F' α' H' ∧ StOk X.K F' α' μ2 H'
 have hsp : spX X.K X.mg fn ps.length vs H1 Q E := by
  refine ⟨by rw [r.length, hlen], F1, α1, μ1, xs, S1.st, o1, ?_⟩
  cases q : fn xs μ1 with
  | ok rr μ2 => rw [q] at hw; exact fun v H2 F2 α2 x2 S2 o2 => hw v H2 F2 α2 (x1.trans x2) (S1.of x2.same x2.pre S2) o2
  | err c μ2 => exact fun n C hc hmn H2 F2 α2 x2 S2 => ⟨n, C, F2, α2, μ2, rfl, hmn, by rw [q, hc], x2, S2⟩
  | bad => rw [q] at hw; exact hw.elim
 have hbn := hb s1 us I1.kIn (by rw [List.append_nil]; exact hlen)
 rw [List.append_nil] at hbn
 refine wpAny_call (codeAny_mono (G.run X.A X.stack s1 H1 ⟨us, []⟩ us vs Q E hr I1.env0 hbn r hsp) fun rr s' hq => ?_)
 cases rr with
 | error ev =>
  obtain ⟨e', t, C, H', B, hev, hos, hbare, U, hok, ⟨n, C', F2, α2, μ2, hc, hmn, hfn, x2, S2⟩, fl, cov, covT⟩ := (show CX1 X.prog X.w X.stack H1 s1 E ev s' from hq)
  cases hc
  rw [hfn] at hw
  exact hw ev s' ⟨pins, σ, H', F2, α2, x1.trans x2, S1.of x2.same x2.pre S2, n, C, rfl, hmn, .inr (.inl ⟨H1, s1, I1, e', t, C, H', B, hev, hos, hbare, U, hok, ⟨rfl, rfl⟩, fl, cov, covT⟩)⟩
 | ok fl =>
  cases fl with
  | ret u => exact I1.after hq
  | next => exact False.elim hq
  | brk => exact False.elim hq
  | cont => exact False.elim hq
end
end Fw
namespace Fw
open PySem L2 PyProof.Rows
noncomputable abbrev tried (X : Cx) (E : Value → Shared → Prop) (pn : List (Addr × Obj)) : Cx := { X with xe := E, pn := pn, calm := false }
section
variable {X : Cx} {pins : List (Addr × Obj)} {σ : L2.St} {H : Hp} {s : Shared}
theorem inv_tried (I : Inv X pins σ H s) (E : Value → Shared → Prop) : Inv (tried X E (X.pn ++ pins)) [] σ H s :=
 ⟨⟨I.ok.mod, I.ok.kind, I.ok.glob, I.ok.blt, I.ok.above, I.ok.inj, I.ok.has, I.ok.cab, (fun h => by cases h), I.ok.frames, I.ok.stk, I.ok.exf, I.ok.bs, I.ok.bsz, I.ok.noex, I.ok.exfs, I.ok.funs, I.ok.frf⟩, I.os, I.bare, I.base, I.loc, I.cell, I.free, I.freeC,
  fun p hp => I.pin p (by simpa using hp), I.hok, I.len⟩
theorem inv_untried {E : Value → Shared → Prop} {pins' : List (Addr × Obj)} (ok : X.Ok) (I : Inv (tried X E (X.pn ++ pins)) pins' σ H s) : Inv X pins σ H s :=
 ⟨ok, I.os, I.bare, I.base, I.loc, I.cell, I.free, I.freeC, fun p hp => I.pin p (List.mem_append_left _ hp), I.hok, I.len⟩
theorem sp_untried {E : Value → Shared → Prop} {D : Ends} {f : Flow} (ok : X.Ok) (h : SP (tried X E (X.pn ++ pins)) [] D f s) : SP X pins D f s := by
 cases f with
 | next => obtain ⟨σ', H', I, q⟩ := h; exact ⟨σ', H', inv_untried ok I, q⟩
 | brk => obtain ⟨σ', H', I, q⟩ := h; exact ⟨σ', H', inv_untried ok I, q⟩
 | cont => obtain ⟨σ', H', I, q⟩ := h; exact ⟨σ', H', inv_untried ok I, q⟩
 | ret u => obtain ⟨v, σ', H', I, r, q⟩ := h; exact ⟨v, σ', H', inv_untried ok I, r, q⟩
end
noncomputable def CH (X : Cx) (hs : List ExceptHandler) (d : Str → DS) : Prop := ∀ (pins : List (Addr × Obj)) (σ : L2.St) (H : Hp) (e t C : Addr) (B : Heap) (s : Shared) (n : Str) (D : Ends) (F : Hp) (α : List Addr) (e' : Slots) (μ' : Store),
 Cau X pins σ H e t C B s → X.mg n = some (.ref C) → Sim X.K F α e' μ' σ H → PostS X F α H D (d n e' μ') → wpAny (model X.prog X.w) X.A (handleBy (.ref e) X.env hs) (SP X pins D) X.xe s
theorem cs_try {X : Cx} {body : List Stmt} {h₀ : ExceptHandler} {hs : List ExceptHandler} {pos : Pos} {db : DS} {dh : Str → DS} (hst : X.stack = X.env :: X.outer) (hf : X.env.frame = some X.env.locals) (hb : ∀ E pn, CSs (tried X E pn) body db) (hh : CH X (h₀ :: hs) dh) :
  CS X (.Try body (h₀ :: hs) [] [] pos) (sTry db dh) := by
 intro pins s σ H D I ⟨F, α, e, μ, S, h⟩
 have ok := I.ok
 refine wpAny_Try_except ?_
 refine wpAny_mono (hb _ (X.pn ++ pins) [] s σ H D (inv_tried I _) ⟨F, α, e, μ, S, ?_⟩) (fun f s₁ q => ?_) (fun _ _ z => z)
 ·unfold sTry at h
  cases q : db e μ with
  | nx e1 μ1 => rw [q] at h; exact h
  | rt y μ1 => rw [q] at h; exact h
  | bk e1 μ1 => rw [q] at h; exact h
  | ct e1 μ1 => rw [q] at h; exact h
  | bad => rw [q] at h; exact h
  | err c e1 μ1 =>
   rw [q] at h
   rintro ev s' ⟨pins', σ', H', F', α', x1, S1, n, C, rfl, hm, hfly⟩
   rcases hfly with ⟨hcalm, _⟩ | ⟨H0, s2, I2, hx⟩ | ⟨hcalm, _⟩
   ·cases hcalm
   ·have I3 : Inv X pins σ' H0 s2 := inv_untried ok I2
    refine cau hst hf I3 hx fun e2 t2 C2 H2 B h5 hev hE2 cc => ?_
    subst hev
    obtain ⟨hc1, hc2⟩ := hE2
    cases hc1
    subst hc2
    exact hh pins σ' _ e2 t2 C B _ n D F' α' e1 μ1 cc hm S1 (PostS.mono x1 h)
   ·cases hcalm
 ·have q := sp_untried ok q
  cases f with
  | next => exact wpAny_execs_nil q
  | brk => exact q
  | cont => exact q
  | ret u => exact q
end Fw
namespace L2
open PySem PySem.Spec PyProof.Rows
section
variable {prog : Program} {w : World} {A : Around} {E : Value → Shared → Prop} {s : Shared} {e C : Addr} {bm : List Value} {Q : Value → Shared → Prop} {c : Value}
end
end L2
namespace Fw
open PySem L2 PyProof.Rows
noncomputable def mroK (K : PySem.W.Frag) (C : Addr) : List Value := match K.lookup C with
 | some ⟨_, _, .cls cd, _⟩ => cd.mro
 | _ => []
structure ExcK (K : PySem.W.Frag) (C : Addr) : Prop where
 ex : ∃ bmB newId, PySem.W.excIn K C bmB newId = true ∧ bmB.contains (.type "BaseException") = true
theorem ExcK.own {K : PySem.W.Frag} {C : Addr} {h : Heap} (o : ExcK K C) (X : K.In h) : ∃ bm, OwnAt h C bm ∧ mroK K C = .ref C :: bm := by
 obtain ⟨bmB, newId, q, hb⟩ := o.ex
 obtain ⟨bm, N, nm, qn, bs, hdct, sn, sub, ab, col, dd, k0, k1, k2, k3, k5, mN, hC, hN, hni, T⟩ := (own_in (mg := fun _ => some (.ref C)) (x := "") X rfl q).obj
 refine ⟨bm, ⟨nm, qn, N, bs, hdct, sn, sub, ab, col, dd, k0, k1, k2, k3, k5, newId, hC, T.hasType hb⟩, ?_⟩
 unfold mroK
 unfold PySem.W.excIn at q
 cases hl : K.lookup C with
 | none => rw [hl] at q; cases q
 | some o =>
  have := X _ _ hl
  rw [hC] at this
  cases this
  rfl
noncomputable def OwnK (K : PySem.W.Frag) (C : Addr) : Prop := ∀ h : Heap, K.In h → ∃ bm, OwnAt h C bm
theorem ownK_of {K : PySem.W.Frag} {C N : Addr} {nm qn : Str} {bs bm : List Value} {hdct : Bool} {sn : List Str} {sub : List Value} {ab : Bool} {col : Option Bool} {dd : Option Addr} {k0 k1 k2 k3 k5 : Option Value} {newId : String}
  (l : K.lookup C = some ⟨.type "type", dd, .cls ⟨nm, bs, .ref C :: bm, N, qn, hdct, sn, sub, ab, col, false⟩, #[k0, k1, k2, k3, some (.builtin newId), k5]⟩) (m : PySem.W.mroIn K C (.type "BaseException") = some true) : OwnK K C := fun h X => by
 refine ⟨bm, nm, qn, N, bs, hdct, sn, sub, ab, col, dd, k0, k1, k2, k3, k5, newId, X _ _ l, ?_⟩
 have hc : PySem.W.clsIn K C = some ⟨nm, bs, .ref C :: bm, N, qn, hdct, sn, sub, ab, col, false⟩ := by
  unfold PySem.W.clsIn
  rw [l]
 unfold PySem.W.mroIn at m
 rw [hc] at m
 have m : (Value.ref C :: bm).contains (.type "BaseException") = true := by
  simpa using m
 rw [List.contains_cons] at m
 simpa using m
noncomputable def CH1 (X : Cx) (hs : List ExceptHandler) (n : Str) (d : DS) : Prop := ∀ (pins : List (Addr × Obj)) (σ : L2.St) (H : Hp) (e t C : Addr) (B : Heap) (s : Shared) (D : Ends) (F : Hp) (α : List Addr) (e' : Slots) (μ' : Store),
 Cau X pins σ H e t C B s → X.mg n = some (.ref C) → Sim X.K F α e' μ' σ H → PostS X F α H D (d e' μ') → wpAny (model X.prog X.w) X.A (handleBy (.ref e) X.env hs) (SP X pins D) X.xe s
theorem CH.of {X : Cx} {hs : List ExceptHandler} {d : Str → DS} (h : ∀ n, CH1 X hs n (d n)) : CH X hs d := fun pins σ H e t C B s n D F α e' μ' c hm S p => h n pins σ H e t C B s D F α e' μ' c hm S p
theorem ch1_bad {X : Cx} {hs : List ExceptHandler} {n : Str} : CH1 X hs n sBad := fun pins σ H e t C B s D F α e' μ' c hm S p => False.elim p
theorem post_mark {X : Cx} {ev : Value} {F H : Hp} {α : List Addr} {D : Ends} {d : DS} {e : Slots} {μ : Store} (h : PostS X F α H D (sCalm d e μ)) : PostS (X.mark ev) F α H D (d e μ) := by
 unfold sCalm at h
 cases q : d e μ with
 | err c e1 μ1 => rw [q] at h; exact False.elim h
 | nx e1 μ1 => rw [q] at h; exact h
 | rt y μ1 => rw [q] at h; exact h
 | bk e1 μ1 => rw [q] at h; exact h
 | ct e1 μ1 => rw [q] at h; exact h
 | bad => rw [q] at h; exact h
section
variable {X : Cx} {n x : Str} {C D : Addr} {np pos tp : Pos} {name : Option Str} {body tl : List Stmt} {b₀ : Stmt} {rest : List ExceptHandler} {d : DS}
theorem in_of {pins : List (Addr × Obj)} {σ : L2.St} {H : Hp} {s : Shared} (I : Inv X pins σ H s) : X.K.In s.heap := by
 have e0 := I.env0
 exact e0.mod.kin.keeps fun b o e => (e0.bs b o e).1
theorem ch_take (hn : X.mg n = some (.ref C)) (hC : ExcK X.K C) (hm : X.mg x = some (.ref D)) (hD : ExcK X.K D) (hsub : (mroK X.K C).contains (.ref D) = true) (hp : ∀ ev, CSs (X.mark ev) (b₀ :: tl) d) (hg : Gl X x := by rfl) (hd : (x == ("__debug__" : Str)) = false := by decide) :
  CH1 X (.ExceptHandler (some (.Name x np)) none (b₀ :: tl) pos :: rest) n (sCalm d) := by
 intro pins σ H e t C' B s D' F α e' μ' c hm' S p
 rw [hn] at hm'
 cases hm'
 have KX := in_of c.inv
 obtain ⟨bm, oC, eC⟩ := hC.own KX
 obtain ⟨bm', oD, _⟩ := hD.own KX
 refine hand_name c oC ⟨bm', oD⟩ hg hm ?_ hd
 rw [eC] at hsub
 rw [if_pos hsub]
 exact suite_none (ts := tDS X (sCalm d)) c (fun ev => PSs.imp (hp ev) fun D σ H ⟨F, α, e, μ, S, p⟩ => ⟨F, α, e, μ, S, post_mark p⟩) ⟨F, α, e', μ', S, p⟩
theorem slot_less (e : Slots) (i j : Nat) : slot (e.set i none) j = if i = j then none else slot e j := by
 unfold slot
 by_cases hj : i = j
 ·subst hj
  rw [if_pos rfl]
  by_cases hl : i < e.length
  ·rw [List.getElem?_set_self hl]
  ·rw [List.getElem?_eq_none (by rw [List.length_set]; omega)]
 ·rw [if_neg hj, List.getElem?_set_ne hj]
theorem sim_less {K : PySem.W.Frag} {F H : Hp} {α : List Addr} {e : Slots} {μ : Store} {σ : L2.St} (i : Nat) (S : Sim K F α e μ σ H) : Sim K F α (e.set i none) μ (σ.set i none) H := by
 refine ⟨S.st, fun j x h => ?_, by rw [List.length_set, List.length_set]; exact S.len⟩
 rw [slot_less] at h
 by_cases hj : i = j
 ·rw [if_pos hj] at h; cases h
 ·rw [if_neg hj] at h
  obtain ⟨v, h1, h2⟩ := S.sl j x h
  exact ⟨v, by rw [List.getElem?_set_ne hj]; exact h1, h2⟩
theorem ch_as {i : Nat} {m : Str} (hst : X.stack = X.env :: X.outer) (hf : X.env.frame = some X.env.locals) (hex : X.ex = []) (hN : X.N.Nodup) (hi : X.N[i]? = some m) (hk : X.env.scope.names.lookup m = some .local)
  (hn : X.mg n = some (.ref C)) (hns : PySem.W.nsIn X.K mainGlobals n = some (some (.ref C))) (hC : ExcK X.K C) (hm : X.mg x = some (.ref D)) (hD : ExcK X.K D) (hsub : (mroK X.K C).contains (.ref D) = true) (hp : ∀ ev, CSs (X.mark ev) (b₀ :: tl) d) (hg : Gl X x := by rfl) (hd : (x == ("__debug__" : Str)) = false := by decide) :
  CH1 X (.ExceptHandler (some (.Name x np)) (some m) (b₀ :: tl) pos :: rest) n (sAs i n d) := by
 intro pins σ H e t C' B s D' F α e' μ' c hm' S p
 rw [hn] at hm'
 cases hm'
 have KX := in_of c.inv
 obtain ⟨bm, oC, eC⟩ := hC.own KX
 obtain ⟨bm', oD, _⟩ := hD.own KX
 refine hand_name c oC ⟨bm', oD⟩ hg hm ?_ hd
 rw [eC] at hsub
 rw [if_pos hsub]
 refine suite_as (φ := ExcAt X.K e n none) (ts := tDS X (sCalm d)) hst hf hex hN hi hk c (fun h q => ⟨C, hns, q⟩) (fun h1 h2 ⟨C1, q1, o, q2, q3⟩ k => ⟨C1, q1, o, k o q2, q3⟩) (fun ev => PSs.imp (hp ev) fun D σ H ⟨F, α, e, μ, S, p⟩ => ⟨F, α, e, μ, S, post_mark p⟩) ?_
 have hHe : H e = none := by
  cases q : H e with
  | none => rfl
  | some o =>
   obtain ⟨o', h1⟩ := c.cov e o q
   rw [c.fly.2.1] at h1
   cases h1
 have g : Grow F H (upd F e (.ext (ExcAt X.K e n none))) (upd H e (.ext (ExcAt X.K e n none))) := Grow.new hHe
 refine ⟨_, α, e'.set i (some (.val (.exc n none))), μ', (S.grow g).set (x := .val (.exc n none)) (v := .ref e) ?_, ?_⟩
 ·exact ⟨e, rfl, upd_same⟩
 ·have p := PostS.mono (g.ex S.st.ext) p
  unfold sAs at p
  cases q : sCalm d (e'.set i (some (.val (.exc n none)))) μ' with
  | nx e1 μ1 => rw [q] at p; exact fun σ1 H1 F1 α1 x1 S1 => p _ H1 F1 α1 x1 (sim_less i S1)
  | bk e1 μ1 => rw [q] at p; exact fun σ1 H1 F1 α1 x1 S1 => p _ H1 F1 α1 x1 (sim_less i S1)
  | ct e1 μ1 => rw [q] at p; exact fun σ1 H1 F1 α1 x1 S1 => p _ H1 F1 α1 x1 (sim_less i S1)
  | rt y μ1 => rw [q] at p; exact p
  | err c1 e1 μ1 => rw [q] at p; exact p
  | bad => rw [q] at p; exact p
theorem ch_skip_tup {x1} (hn : X.mg n = some (.ref C)) (hC : ExcK X.K C) (ns : List NmD) (hl : ns.length ≤ 1000) (ok : ∀ q ∈ ns, NmOk X q ∧ OwnK X.K q.2.2 ∧ (mroK X.K C).contains (.ref q.2.2) = false) (hr : CH1 X rest n d) :
  CH1 X (.ExceptHandler (some (.Tuple (ns.map nmE) x1 tp)) name body pos :: rest) n d := by
 intro pins σ H e t C' B s D' F α e' μ' c hm' S p
 rw [hn] at hm'
 cases hm'
 have KX := in_of c.inv
 obtain ⟨bm, oC, eC⟩ := hC.own KX
 refine hand_tup ns hl c oC (fun q hq => ?_) (fun q hq => (ok q hq).1) fun s' kp c' => ?_
 ·exact (ok q hq).2.1 _ KX
 ·have ha : (ns.any fun q => (Value.ref C :: bm).contains (.ref q.2.2)) = false := by
   rw [List.any_eq_false]
   intro q hq
   have := (ok q hq).2.2
   rw [eC] at this
   rw [this]
   exact Bool.false_ne_true
  rw [if_neg (by rw [ha]; exact Bool.false_ne_true)]
  exact hr pins σ H e t C B s' D' F α e' μ' c' hn S p
end
end Fw
namespace Fw
open PySem L2 PyProof.Rows
section
variable {X : Cx} {D : Addr} {T : String} {x : Str} {p p2 pos : Pos} {a : Expr} {da : Fw.D} {ns : List Str}
end
end Fw
namespace L2
open PySem PySem.Spec PySem.Calls PySem.W PyProof.Rows Builtin Builtin.ObjectAttr Builtin.Getset_descriptor
section
variable {prog : Program} {w : World} {A : Around} {E : Value → Shared → Prop} {s : Shared} {K : Frag} {x C : Addr}
theorem excCls_type {M : Model} {h : Heap} (hx : ExcCls x C h) : Looks M h (typeOf (.ref x)) (.ref C) := by
 obtain ⟨o, h1, h2⟩ := hx
 exact h2 ▸ (Looks.ld h1).andThen .now
theorem exc_get {R : Result → Shared → Prop} {tp : Value} (X : K.In s.heap) (hx : ExcCls x C s.heap) (hm : mroIn K C (.type "object") = some true) (h : R (.ok (.ret (.ref C))) s) :
  codeAny (model prog w) A (.call (.builtin "getset_descriptor.__get__") ⟨[.builtin "object.__class__", .ref x, tp], []⟩) R s := by
 have T := excCls_type (M := model prog w) hx
 have O := looks_mroIn (M := model prog w) X hm
 obtain ⟨hh, g, dr, t, os⟩ := s
 refine codeAny_call_builtin KF.slot_gs.plain KF.entry_gs (KF.slot_gs.check _ _ _ _ _ _ _ _ KF.type_class (KF.args_gs _ _ _) ?_)
 unfold Builtin.«getset_descriptor.__get__» descrGet
 rw [dga_obj]
 refine wpAny_bind (wpAny_pure ?_)
 unfold descrGetter descrCheckInstance descrNameAndClass isInstance
 simp only [KF.owner_class]
 repeat lk
 refine ⟨Code.quiet_builtin _ (by decide +kernel), codeAny_builtin KF.entry_class ?_⟩
 unfold Builtin.«object.__class__» shownTypeOf
 repeat lk
 exact h
theorem exc_find {M : Model} {h : Heap} {v : Value} (X : K.In h) (ha : findIn K (.ref C) "__class__" = some (some (.builtin "object.__class__"))) (hn : specialIn K (.builtin "object.__class__") "__get__" = some (some (.builtin "getset_descriptor.__get__"))) (htk : takesIn K (.builtin "object.__class__") = some true) :
  Looks M h (find v (.ref C) "__class__") (.bind (.builtin "getset_descriptor.__get__") (.builtin "object.__class__")) := by
 have l1 := looks_findIn (M := M) X ha
 have l2 : Looks M h (getOf (some (.builtin "object.__class__"))) (some (.builtin "getset_descriptor.__get__")) := looks_specialIn X hn
 have l3 : Looks M h (dataDescriptor? (some (.builtin "object.__class__")) (some (.builtin "getset_descriptor.__get__"))) (some (.builtin "getset_descriptor.__get__", .builtin "object.__class__")) := (looks_takesIn (M := M) X htk).andThen .now
 exact l1.andThen (l2.andThen (l3.andThen (Looks.tag .now)))
structure KGet (K : Frag) (C : Addr) : Prop where
 ga : findIn K (.ref C) "__getattribute__" = some (some (.builtin "BaseException.__getattribute__"))
 gn : findIn K (.ref C) "__getattr__" = some none
 a : findIn K (.ref C) "__class__" = some (some (.builtin "object.__class__"))
 n : specialIn K (.builtin "object.__class__") "__get__" = some (some (.builtin "getset_descriptor.__get__"))
 t : takesIn K (.builtin "object.__class__") = some true
 m : mroIn K C (.type "object") = some true
 mb : mroIn K C (.type "BaseException") = some true
theorem exc_check {tk : Tok} {Q : Unit → Shared → Prop} (k : KGet K C) (X : K.In s.heap) (hx : ExcCls x C s.heap) (h : Q () s) : wpAny (model prog w) A (checkBuiltinCall "BaseException.__getattribute__" ⟨[.ref x, .str "__class__" tk], []⟩) Q E s := by
 have T := excCls_type (M := model prog w) hx
 have O := looks_mroIn (M := model prog w) X k.mb
 have hk : builtinKind "BaseException.__getattribute__" = some .slot := by decide +kernel
 have hsplit : splitId "BaseException.__getattribute__" = some ("BaseException", "__getattribute__") := by decide +kernel
 have ha := F.args_bexc_ga (.ref x) (.str "__class__" tk)
 obtain ⟨hh, g, dr, t, os⟩ := s
 simp only [checkBuiltinCall, hk, hsplit]
 refine wpAny_bind ?_
 unfold isInstance
 repeat lk
 repeat (any_goals (first | assumption | wp_step))
theorem exc_entry {tk : Tok} {R : Result → Shared → Prop} (k : KGet K C) (X : K.In s.heap) (hx : ExcCls x C s.heap) (h : R (.ok (.ret (.ref C))) s) :
  codeAny (model prog w) A (.call (.builtin "BaseException.__getattribute__") ⟨[.ref x, .str "__class__" tk], []⟩) R s := by
 have T := excCls_type (M := model prog w) hx
 have Fd := exc_find (M := model prog w) (v := .ref x) X k.a k.n k.t
 have go : ∀ A', codeAny (model prog w) A' (.call (.builtin "getset_descriptor.__get__") ⟨[.builtin "object.__class__", .ref x, .ref C], []⟩) (fun r s' => match r with | .ok (.ret v) => v = .ref C ∧ s' = s | _ => False) s :=
  fun A' => exc_get (s := s) X hx k.m ⟨rfl, rfl⟩
 refine codeAny_call_builtin F.attrBase_ValueError.ga.plain F.entry_bexc_ga (exc_check k X hx ?_)
 obtain ⟨hh, g, d, t, os⟩ := s
 unfold Builtin.«object.__getattribute__»
 refine wpAny_bind (wpAny_pure ?_)
 refine wpAny_bind (wpAny_pure ?_)
 refine wpAny_bind (T.at (wpAny_bind (Fd.at ?_)))
 show wpAny _ _ (holding [_] (call _ [_, .ref x, .ref C]) >>= ret) _ _ _
 refine wpAny_bind (wpAny_holding (wpAny_call (codeAny_mono (go _) fun r s' q => ?_)))
 match r, q with
 | .ok (.ret v), q =>
  obtain ⟨rfl, rfl⟩ := q
  exact wpAny_pure h
theorem exc_class {Q : Option Value → Shared → Prop} (k : KGet K C) (X : K.In s.heap) (hx : ExcCls x C s.heap) (h : Q (some (.ref C)) { s with toks := s.toks + 1 }) : wpAny (model prog w) A (getAttr? (.ref x) "__class__") Q E s := by
 have T := excCls_type (M := model prog w) hx
 have G := looks_findIn (M := model prog w) X k.ga
 have N := looks_findIn (M := model prog w) X k.gn
 have go : ∀ A', codeAny (model prog w) A' (.call (.builtin "BaseException.__getattribute__") ⟨[.ref x, .str "__class__" s.toks], []⟩) (fun r s' => match r with | .ok (.ret v) => v = .ref C ∧ s' = { s with toks := s.toks + 1 } | _ => False) { s with toks := s.toks + 1 } :=
  fun A' => exc_entry (s := { s with toks := s.toks + 1 }) k X hx ⟨rfl, rfl⟩
 obtain ⟨hh, g, d, t, os⟩ := s
 unfold getAttr? getAttrBy? getAttrBy
 refine wpAny_bind (wpAny_mkText (wpAny_bind (wpAny_attempt (wpAny_holding (wpAny_bind (T.at (wpAny_bind (G.at ?_))))))))
 show wpAny _ _ (getAttrByItsOwn _ _ _ _ _ _) _ _ _
 unfold getAttrByItsOwn hookBefore callGetattribute boundAndCalled
 refine wpAny_bind (N.at ?_)
 refine wpAny_bind (wpAny_attempt (wpAny_holding ?_))
 show wpAny _ _ (bindSpecial (.builtin "BaseException.__getattribute__") (.ref x) >>= _) _ _ _
 refine wpAny_bind (wpAny_of_eq (F.attrBase_ValueError.ga.bind _) ?_)
 refine wpAny_call (codeAny_mono (go _) fun r s' q => ?_)
 match r, q with
 | .ok (.ret v), q =>
  obtain ⟨rfl, rfl⟩ := q
  exact handed_on rfl (wpAny_pure h)
structure KExc (K : Frag) (C : Addr) : Prop extends KGet K C where
 cl : (clsIn K C).isSome = true
theorem kexc_obj {h : Heap} (k : KExc K C) (X : K.In h) : ∃ c d cd sl, h.get? C = some ⟨c, d, .cls cd, sl⟩ := by
 obtain ⟨cd, hc⟩ := Option.isSome_iff_exists.mp k.cl
 unfold clsIn at hc
 split at hc
 ·rename_i c' d' cd' sl' ho
  exact ⟨_, _, _, _, X _ _ ho⟩
 ·cases hc
theorem kitx_exc (k : KExc K C) : KitX K (.ref x) (.ref C) (ExcCls x C) where
 ty := fun _ _ _ hx => excCls_type hx
 it := fun _ _ X _ => by
  obtain ⟨c, d, cd, sl, ho⟩ := kexc_obj k X
  intro A' Q' E' s' kk q
  unfold isType loadHead
  exact wpAny_bind (wpAny_loadPart (kk _ _ ho) (wpAny_pure q))
 ne := fun h tp dd its n sl X htp => by
  obtain ⟨c, d, cd, sl', ho⟩ := kexc_obj k X
  refine Bool.eq_false_iff.mpr fun q => ?_
  have e : C = tp := Value.ref.inj (beq_iff_eq.mp q)
  subst e
  rw [ho] at htp
  cases htp
 ca := fun X hx h => exc_class k.toKGet X hx h
end
end L2
namespace Fw
open PySem L2 PyProof.Rows
structure KCls (K : PySem.W.Frag) (n : Str) (C : Addr) : Prop where
 ns : PySem.W.nsIn K mainGlobals n = some (some (.ref C))
 ke : KExc K C
noncomputable def isGR (X : Cx) (c : V) (r : Addr → Option Bool) : List V → Hp → VK → Prop := fun xs H Q => ∃ a n C b, xs = [.ref a, c] ∧ H a = some (.ext (ExcAt X.K a n none)) ∧ KCls X.K n C ∧ r C = some b ∧ Q (.bl b) H
section
variable {X : Cx} {D : Addr} {Tn : String} {x : Str} {p p2 pos : Pos} {a : Expr} {da : Fw.D} {f : Str → Option Bool}
theorem exc_of {pins : List (Addr × Obj)} {σ : L2.St} {H : Hp} {s : Shared} {a C : Addr} {n : Str} (I : Inv X pins σ H s) (hH : H a = some (.ext (ExcAt X.K a n none))) (k : KCls X.K n C) : ExcCls a C s.heap := by
 obtain ⟨⟨C', hns', hx⟩, _, _⟩ := (show ObjOk X.prog X.w H s.heap a (.ext (ExcAt X.K a n none)) from I.hok a _ hH)
 rw [k.ns] at hns'
 cases hns'
 exact hx
theorem call_isG : CallR X (.builtin "isinstance") (isGR X (.ref D) fun C => PySem.W.kitOne X.K (.ref C) (.ref D)) := by
 intro pins s σ H xs us Q I r h
 obtain ⟨a, n, C, b, rfl, hH, k, hb, q⟩ := h
 obtain ⟨u1, u2, rfl, r1, r2⟩ := vals2 r
 cases r1
 cases r2
 exact PySem.W.kia_one (kitx_exc k.ke) (in_of I) (exc_of I hH k) hb (fun z => nomatch z) fun tk => ⟨.bl b, H, I.tok _, rfl, q⟩
theorem call_isGT : CallR X (.builtin "isinstance") (isGR X (.ty Tn) fun C => PySem.W.kitOne X.K (.ref C) (.type Tn)) := by
 intro pins s σ H xs us Q I r h
 obtain ⟨a, n, C, b, rfl, hH, k, hb, q⟩ := h
 obtain ⟨u1, u2, rfl, r1, r2⟩ := vals2 r
 cases r1
 have r2 : u2 = Value.type Tn := r2
 subst r2
 exact PySem.W.kia_one (kitx_exc k.ke) (in_of I) (exc_of I hH k) hb (fun z => nomatch z) fun tk => ⟨.bl b, H, I.tok _, rfl, q⟩
theorem isG_read {σ : L2.St} {H : Hp} {Q : VK} {c : V} {r : Addr → Option Bool} (hf : ∀ n b, f n = some b → ∃ C, KCls X.K n C ∧ r C = some b) (h : tD X (dIsG f da) σ H Q) :
  tCons (tD X da) (tCons (tC c) tNil) σ H fun vs H1 => isGR X c r vs H1 Q := by
 obtain ⟨F, α, e, μ, S, h⟩ := h
 refine ⟨F, α, e, μ, S, (R.wp_bind h).mono (fun x μ1 h v H1 F1 α1 x1 S1 o1 => ?_) fun _ _ h => h⟩
 match x, h with
 | .val (.exc n none), h =>
  have h : (match f n with | some b => R.ok (SV.val (T.bl b)) μ1 | none => R.bad).wp (Post X.K F α H e σ Q) (XPost X F α H e) := h
  cases hn : f n with
  | some b =>
   rw [hn] at h
   obtain ⟨C, h1, h2⟩ := hf n b hn
   obtain ⟨a, rfl, hF⟩ := (show ∃ a, v = .ref a ∧ F1 a = some (.ext (ExcAt X.K a n none)) from o1)
   exact ⟨a, n, C, b, rfl, S1.st.ext a _ hF, h1, h2, h _ H1 F1 α1 x1 S1 (Rep.bl' (K := X.K) (F := F1) b)⟩
  | none => rw [hn] at h; exact h.elim
 | .val (.exc n (some t)), h => exact h.elim
 | .val .non, h => exact h.elim
 | .val (.bl b), h => exact h.elim
 | .val (.int i), h => exact h.elim
 | .val (.str y), h => exact h.elim
 | .val (.lst y), h => exact h.elim
 | .val (.tup y), h => exact h.elim
 | .val (.dct y), h => exact h.elim
 | .cel k, h => exact h.elim
 | .box y, h => exact h.elim
theorem ce_isG (hi : X.mg "isinstance" = none) (hm : X.mg x = some (.ref D)) (hf : ∀ n b, f n = some b → ∃ C, KCls X.K n C ∧ PySem.W.kitOne X.K (.ref C) (.ref D) = some b) (ha : CE X a da) (hg1 : Gl X "isinstance" := by rfl) (hg : Gl X x := by rfl) (hd : (x == ("__debug__" : Str)) = false := by decide)
  (hs1 : starEach [a, .Name x p2] X.env = (false, eval a X.env) :: starEach [.Name x p2] X.env := by rfl) (hs2 : starEach [.Name x p2] X.env = (false, eval (.Name x p2) X.env) :: starEach [] X.env := by rfl) (hpl : (backTo pos (starEach [.Name x p2] X.env)).any (·.1) = false := by rfl) :
  CE X (.Call (.Name "isinstance" p) [a, .Name x p2] [] pos) (dIsG f da) :=
 PE.imp (pe_callB call_isG hg1 hi PyProof.Rows.boot_isinstance (pa_cons ha (pa_cons (pe_glob (v := .ref D) hg hm rfl hd) pa_nil hs2) hs1) (by decide) (by decide) hs1 hpl) fun σ H Q h => isG_read hf h
theorem ce_isGT (hi : X.mg "isinstance" = none) (hm : X.mg x = none) (hv : bootBuiltins x = some (.type Tn)) (hf : ∀ n b, f n = some b → ∃ C, KCls X.K n C ∧ PySem.W.kitOne X.K (.ref C) (.type Tn) = some b) (ha : CE X a da) (hg1 : Gl X "isinstance" := by rfl) (hg : Gl X x := by rfl) (hn : x ≠ "__name__" := by decide) (hd : (x == ("__debug__" : Str)) = false := by decide)
  (hs1 : starEach [a, .Name x p2] X.env = (false, eval a X.env) :: starEach [.Name x p2] X.env := by rfl) (hs2 : starEach [.Name x p2] X.env = (false, eval (.Name x p2) X.env) :: starEach [] X.env := by rfl) (hpl : (backTo pos (starEach [.Name x p2] X.env)).any (·.1) = false := by rfl) :
  CE X (.Call (.Name "isinstance" p) [a, .Name x p2] [] pos) (dIsG f da) :=
 PE.imp (pe_callB call_isGT hg1 hi PyProof.Rows.boot_isinstance (pa_cons ha (pa_cons (pe_bltn (v := .ty Tn) hg hm hv rfl hn hd) pa_nil hs2) hs1) (by decide) (by decide) hs1 hpl) fun σ H Q h => isG_read hf h
end
end Fw
namespace Fw.H
open PySem Fw
noncomputable def b_cell : DS :=
 (sSeq (sIf (dBin fLt (dVar 1) (dLen (dVar 0))) (sRet (dIdx (dVar 0) (dVar 1))) sNil)
 (sSeq (sSet 2 (dBin fAdd (dBin fMulA (dVar 1) (dC (.int 7919))) (dC (.int 11))))
 (sSeq (sIf (dBin fGt (dLen (dVar 0)) (dC (.int 0))) (sSet 2 (dBin fAdd (dVar 2) (dBin fMulA (dBin fMod (dIdx (dVar 0) (dBin fMod (dBin fAdd (dBin fMulA (dC (.int 5)) (dVar 1)) (dC (.int 2))) (dLen (dVar 0)))) (dC (.int 2147483629))) (dC (.int 69621))))) sNil)
 (sSeq (sSet 2 (dBin fMod (dBin fMulA (dVar 2) (dVar 2)) (dC (.int 2147483647))))
 (sRet (dBin fMod (dBin fMulA (dVar 2) (dVar 2)) (dC (.int 998244353))))))))
theorem cell_ok (ns : List Int) (k : Int) (μ : Store) (h0 : 0 ≤ k) (h1 : k ≤ 1000) : ∃ c, fnV 3 b_cell [.val (.lst (ns.map T.int)), .val (.int k)] μ = .ok (.val (.int c)) μ := by
 unfold b_cell
 simp
 by_cases h : k < ns.length
 ·simp [h, atI_map h0 h]
 ·simp [h]
  by_cases h2 : 0 < ns.length
  ·have p0 : 0 ≤ (5 * k + 2) % (ns.length : Int) := Int.emod_nonneg _ (by lia)
   have p1 : (5 * k + 2) % (ns.length : Int) < ns.length := Int.emod_lt_of_pos _ (by lia)
   simp (disch := lia) [h2, atI_map p0 p1]
  ·simp (disch := lia) [h2]
structure Row (m : Int) (n : Int) (ns : List Int) : Prop where
 len : (ns.length : Int) = n
 lo : ∀ x ∈ ns, 0 ≤ x
 hi : ∀ x ∈ ns, x < m
theorem Row.snoc {m : Int} {i : Nat} {ns : List Int} {x : Int} (h : Row m i ns) (h0 : 0 ≤ x) (h1 : x < m) : Row m ((i + 1 : Nat) : Int) (ns ++ [x]) := by
 refine ⟨by have := h.len; simp; lia, fun y hy => ?_, fun y hy => ?_⟩
 ·rcases List.mem_append.mp hy with z | z
  ·exact h.lo y z
  ·simp at z; lia
 ·rcases List.mem_append.mp hy with z | z
  ·exact h.hi y z
  ·simp at z; lia
noncomputable def b_p : DS :=
 (sSeq (sIf (dBin fEq (dBin fMod (dBin fDiv (dVar 0) (dC (.int 6))) (dC (.int 8))) (dC (.int 5))) (sRet (dIdx (dLst [(dC (.int 17)), (dC (.int 31)), (dC (.int 61)), (dC (.int 97))]) (dBin fMod (dBin fDiv (dVar 0) (dC (.int 48))) (dC (.int 4))))) sNil)
 (sRet (dIdx (dLst [(dC (.int 2)), (dC (.int 3)), (dC (.int 5)), (dC (.int 7)), (dC (.int 11)), (dC (.int 13))]) (dBin fMod (dVar 0) (dC (.int 6))))))
noncomputable def IsPr (p : Int) : Prop := p ∈ ([2, 3, 5, 7, 11, 13, 17, 19, 23, 29, 31, 37, 41, 43, 47, 53, 59, 61, 67, 71, 73, 79, 83, 89, 97] : List Int)
theorem IsPr.pos {p : Int} (h : IsPr p) : 2 ≤ p ∧ p ≤ 97 := by
 have key : ∀ p ∈ ([2, 3, 5, 7, 11, 13, 17, 19, 23, 29, 31, 37, 41, 43, 47, 53, 59, 61, 67, 71, 73, 79, 83, 89, 97] : List Int), 2 ≤ p ∧ p ≤ 97 := by decide +kernel
 exact key p h
theorem p_ok (c : Int) (μ : Store) : ∃ p, fnV 1 b_p [.val (.int c)] μ = .ok (.val (.int p)) μ ∧ IsPr p := by
 unfold b_p
 by_cases h : c / 6 % 8 = 5
 ·simp [h]
  have : c / 48 % 4 = 0 ∨ c / 48 % 4 = 1 ∨ c / 48 % 4 = 2 ∨ c / 48 % 4 = 3 := by lia
  rcases this with e | e | e | e <;> rw [e]
  ·exact ⟨17, by simp [atI, ixN], by simp [IsPr]⟩
  ·exact ⟨31, by simp [atI, ixN], by simp [IsPr]⟩
  ·exact ⟨61, by simp [atI, ixN], by simp [IsPr]⟩
  ·exact ⟨97, by simp [atI, ixN], by simp [IsPr]⟩
 ·simp [h]
  have : c % 6 = 0 ∨ c % 6 = 1 ∨ c % 6 = 2 ∨ c % 6 = 3 ∨ c % 6 = 4 ∨ c % 6 = 5 := by lia
  rcases this with e | e | e | e | e | e <;> rw [e]
  ·exact ⟨2, by simp [atI, ixN], by simp [IsPr]⟩
  ·exact ⟨3, by simp [atI, ixN], by simp [IsPr]⟩
  ·exact ⟨5, by simp [atI, ixN], by simp [IsPr]⟩
  ·exact ⟨7, by simp [atI, ixN], by simp [IsPr]⟩
  ·exact ⟨11, by simp [atI, ixN], by simp [IsPr]⟩
  ·exact ⟨13, by simp [atI, ixN], by simp [IsPr]⟩
end Fw.H
namespace Fw
open PySem PySem.Spec PyProof.Rows L2
structure Gf (K : PySem.W.Frag) (mg : Str → Option Value) (x : Str) (st : Stmt) (ps : List Str) (f : Addr) (fd : FuncData) : Prop where
 F : Fun K x x st f fd
 b : Binds K fd ps []
 m : mg x = some (.ref f)
noncomputable def relabelS (scope so : Scope) : Scope := { scope with names := scope.names.map fun (n, k) => if (k == .free && so.kind == .function && so.names.lookup n == some .cell) then (n, .cell) else (n, k) }
noncomputable def CompOk (N N' : List Str) (scope so : Scope) (mp : List (Option Nat)) : Prop :=
 scope.kind = .function ∧ (scope.names.filter fun y => y.2 == NameKind.cell).length ≤ 1 ∧ (scope.names.map (·.1)).Nodup ∧ (∀ y ∈ scope.names, (y.2 = .local → scope.names.lookup y.1 = some .local) ∧ (y.2 = .free → (so.names.lookup y.1 = some .cell ∨ so.names.lookup y.1 = some .free) ∧
  ((relabelS scope so).names.lookup y.1 = some .cell ∨ (relabelS scope so).names.lookup y.1 = some .free))) ∧ mp.length = N'.length ∧
 ∀ q ∈ mp.zip N', match q.1 with
  | none => True
  | some j => N[j]? = some q.2 ∧ (q.2, NameKind.free) ∈ scope.names ∧ (so.names.lookup q.2 = some .cell ∨ so.names.lookup q.2 = some .free)
noncomputable instance (N N' : List Str) (scope so : Scope) (mp : List (Option Nat)) : Decidable (CompOk N N' scope so mp) := by
 unfold CompOk
 have : ∀ q : Option Nat × Str, Decidable (match q.1 with
  | none => True
  | some j => N[j]? = some q.2 ∧ (q.2, NameKind.free) ∈ scope.names ∧ (so.names.lookup q.2 = some .cell ∨ so.names.lookup q.2 = some .free)) := fun q => by
  cases q.1 <;> infer_instance
 infer_instance
theorem lookup_of_mem {α : Type} {x : Str} {k : α} : ∀ {l : List (Str × α)}, (l.map (·.1)).Nodup → (x, k) ∈ l → l.lookup x = some k
 | [], _, h => by cases h
 | (y, k') :: l, nd, h => by
  have nd' := List.nodup_cons.mp (by simpa using nd : (y :: l.map (·.1)).Nodup)
  rw [List.lookup_cons]
  rcases List.mem_cons.mp h with e | h
  ·cases e; simp
  ·have : (x == y) = false := by
    have : x ≠ y := fun q => nd'.1 (List.mem_map.mpr ⟨_, h, q⟩)
    simpa using this
   rw [this]
   exact lookup_of_mem nd'.2 h
theorem compScope_of {X : Cx} {N' : List Str} {scope : Scope} {mp : List (Option Nat)} (so : Scope) (hso : X.env.scope = so) (N : List Str) (hN : X.N = N) (h : CompOk N N' scope so mp) : CompScope X N' scope mp := by
 subst hso
 subst hN
 obtain ⟨h1, hc1, hnd, h2, h3, h4⟩ := h
 have er : (relabel scope X.env).names = (relabelS scope X.env.scope).names := rfl
 refine ⟨h1, hc1, hnd, fun y hy => (h2 y hy).1, fun y hy hf => ((h2 y hy).2 hf).1, h3, fun i j hij => ?_, fun x hx => ?_, fun x hx => ?_⟩
 ·have hi : i < mp.length := (List.getElem?_eq_some_iff.mp hij).1
  have hz : (mp.zip N')[i]? = some (some j, N'[i]'(by omega)) := by
   rw [List.getElem?_zip_eq_some]
   exact ⟨hij, by simp⟩
  have := h4 _ (List.mem_of_getElem? hz)
  exact ⟨_, by simp, this⟩
 ·rw [er]; exact ((h2 _ hx).2 rfl).2
 ·rw [er] at hx
  have mem : ∀ k, (relabelS scope X.env.scope).names.lookup x = some k → (k = .cell ∨ k = .free) → (x, NameKind.free) ∈ scope.names ∨ scope.names.lookup x = some .cell := fun k hk hkk => by
   have hm := PySem.mem_of_lookup hk
   unfold relabelS at hm
   obtain ⟨⟨n, k'⟩, hm1, hm2⟩ := List.mem_map.mp hm
   by_cases hc : (k' == .free && X.env.scope.kind == .function && X.env.scope.names.lookup n == some .cell) = true
   ·simp only [hc, if_true] at hm2
    cases hm2
    have : k' = .free := by
     simp only [Bool.and_eq_true, beq_iff_eq] at hc
     exact hc.1.1
    subst this
    exact .inl hm1
   ·simp only [hc, if_false] at hm2
    cases hm2
    rcases hkk with rfl | rfl
    ·exact .inr (lookup_of_mem hnd hm1)
    ·exact .inl hm1
  rcases hx with hx | hx
  ·exact mem _ hx (.inl rfl)
  ·exact mem _ hx (.inr rfl)
theorem sp_law {K : PySem.W.Frag} {fn : FN} {H : Hp} {a : Addr} {ns : List Int} (hlaw : ∀ ns : List Int, ns.length ≤ 63 → ∃ μ', fn [.val (.lst (ns.map T.int))] [] = .ok (.val (.bl true)) μ') (hl : ns.length ≤ 63) (hS : SqL K H a (ns.map V.int)) :
  spD K fn 1 [.ref a] H (fun v _ => v = .bl true) (fun _ _ _ => False) := by
 obtain ⟨μ', h⟩ := hlaw ns hl
 refine ⟨rfl, H, [], [], _, _, μ', ⟨Same.refl _, rfl, List.nodup_nil, fun k a h => by simp at h, fun k b t a h => by simp at h⟩, .cons ?_ .nil, h, fun v H' F' α' _ _ o => Rep.of_bl (K := K) (F := F') o⟩
 show Rep K H (.lst (ns.map T.int)) (.ref a)
 rw [Rep]
 exact ⟨a, _, rfl, hS, RepL.of_ints ns⟩
section
variable {K : PySem.W.Frag}
theorem Now.lst_ {F H : Hp} {v : V} {ts : List T} (h : Now K F H v (.lst ts)) : ∃ a vs, v = .ref a ∧ SqL K H a vs ∧ RepL K F ts vs := h
theorem Now.tup_ {F H : Hp} {v : V} {ts : List T} (h : Now K F H v (.tup ts)) : ∃ a vs, v = .ref a ∧ SqT K F a vs ∧ RepL K F ts vs := h
theorem sem_ii {r : R2} {f : T → T → Option T} (g : Int → Int → T) (gV : Int → Int → V) (C : Int → Int → Prop) (hr : ∀ i j H Q, C i j → Q (gV i j) H → r (.int i) (.int j) H Q)
  (hf : ∀ t u w, f t u = some w → ∃ i j, t = .int i ∧ u = .int j ∧ w = g i j ∧ C i j) (hg : ∀ F i j, Rep K F (g i j) (gV i j)) : OpSem K r f := by
 intro F H v u t t' w Q s hv hu hw q
 obtain ⟨i, j, rfl, rfl, rfl, hc⟩ := hf _ _ _ hw
 cases hv.int
 cases hu.int
 exact hr i j H Q hc (q _ H F Grow.refl (hg F i j))
theorem sem_sub : OpSem K (rI0 fun i j => .int (i - j)) fSub := sem_ii (fun i j => .int (i - j)) (fun i j => .int (i - j)) (fun _ _ => True) (fun i j H Q _ q => ⟨i, j, rfl, rfl, q⟩)
 (fun t u w h => by cases t <;> cases u <;> first | (cases h; exact ⟨_, _, rfl, rfl, rfl, trivial⟩) | cases h) fun F i j => Rep.int' _
theorem sem_mod : OpSem K (rI (fun _ j => 0 < j) fun i j => .int (i % j)) fMod := sem_ii (fun i j => .int (i % j)) (fun i j => .int (i % j)) (fun _ j => 0 < j) (fun i j H Q c q => ⟨i, j, rfl, rfl, c, q⟩)
 (fun t u w h => by
  cases t <;> cases u <;> first | cases h | skip
  rename_i i j
  by_cases hj : 0 < j
  ·have h : (if 0 < j then some (T.int (i % j)) else none) = some w := h
   rw [if_pos hj] at h
   cases h
   exact ⟨_, _, rfl, rfl, rfl, hj⟩
  ·have h : (if 0 < j then some (T.int (i % j)) else none) = some w := h
   rw [if_neg hj] at h; cases h) fun F i j => Rep.int' _
theorem sem_div : OpSem K (rI CDiv fun i j => .int (i / j)) fDiv := sem_ii (fun i j => .int (i / j)) (fun i j => .int (i / j)) CDiv (fun i j H Q c q => ⟨i, j, rfl, rfl, c, q⟩)
 (fun t u w h => by
  cases t <;> cases u <;> first | cases h | skip
  rename_i i j
  have h : (if 0 < j ∧ j < 1073741824 then some (T.int (i / j)) else none) = some w := h
  by_cases hj : 0 < j ∧ j < 1073741824
  ·rw [if_pos hj] at h
   cases h
   exact ⟨_, _, rfl, rfl, rfl, hj⟩
  ·rw [if_neg hj] at h; cases h) fun F i j => Rep.int' _
theorem sem_lt : OpSem K (rI0 fun i j => .bl (decide (i < j))) fLt := sem_ii (fun i j => .bl (decide (i < j))) (fun i j => .bl (decide (i < j))) (fun _ _ => True) (fun i j H Q _ q => ⟨i, j, rfl, rfl, q⟩)
 (fun t u w h => by cases t <;> cases u <;> first | (cases h; exact ⟨_, _, rfl, rfl, rfl, trivial⟩) | cases h) fun F i j => Rep.bl' _
theorem sem_le : OpSem K (rI0 fun i j => .bl (decide (i ≤ j))) fLe := sem_ii (fun i j => .bl (decide (i ≤ j))) (fun i j => .bl (decide (i ≤ j))) (fun _ _ => True) (fun i j H Q _ q => ⟨i, j, rfl, rfl, q⟩)
 (fun t u w h => by cases t <;> cases u <;> first | (cases h; exact ⟨_, _, rfl, rfl, rfl, trivial⟩) | cases h) fun F i j => Rep.bl' _
theorem sem_gt : OpSem K (rI0 fun i j => .bl (decide (j < i))) fGt := sem_ii (fun i j => .bl (decide (j < i))) (fun i j => .bl (decide (j < i))) (fun _ _ => True) (fun i j H Q _ q => ⟨i, j, rfl, rfl, q⟩)
 (fun t u w h => by cases t <;> cases u <;> first | (cases h; exact ⟨_, _, rfl, rfl, rfl, trivial⟩) | cases h) fun F i j => Rep.bl' _
theorem sem_ge : OpSem K (rI0 fun i j => .bl (decide (j ≤ i))) fGe := sem_ii (fun i j => .bl (decide (j ≤ i))) (fun i j => .bl (decide (j ≤ i))) (fun _ _ => True) (fun i j H Q _ q => ⟨i, j, rfl, rfl, q⟩)
 (fun t u w h => by cases t <;> cases u <;> first | (cases h; exact ⟨_, _, rfl, rfl, rfl, trivial⟩) | cases h) fun F i j => Rep.bl' _
end
section
variable {X : Cx} {a b c : Expr} {da db dc : D} {pos p p2 : Pos}
theorem ce_sub (ha : CE X a da) (hb : CE X b db) : CE X (.BinOp a .Sub b pos) (dBin fSub da db) := ce_bin op_sub sem_sub ha hb
theorem ce_mod (ha : CE X a da) (hb : CE X b db) : CE X (.BinOp a .Mod b pos) (dBin fMod da db) := ce_bin op_mod sem_mod ha hb
theorem ce_div (ha : CE X a da) (hb : CE X b db) : CE X (.BinOp a .FloorDiv b pos) (dBin fDiv da db) := ce_bin op_fdiv sem_div ha hb
theorem ce_lt (ha : CE X a da) (hb : CE X b db) : CE X (.Compare a [.Lt] [b] pos) (dBin fLt da db) := ce_cmp op_lt sem_lt (nomark _) ha hb
theorem ct_lt (ha : CE X a da) (hb : CE X b db) : CT X (.Compare a [.Lt] [b] pos) (dBin fLt da db) := ct_cmp op_lt sem_lt (nomark _) ha hb
theorem ct_gt (ha : CE X a da) (hb : CE X b db) : CT X (.Compare a [.Gt] [b] pos) (dBin fGt da db) := ct_cmp op_gt sem_gt (nomark _) ha hb
theorem ct_ge (ha : CE X a da) (hb : CE X b db) : CT X (.Compare a [.GtE] [b] pos) (dBin fGe da db) := ct_cmp op_ge sem_ge (nomark _) ha hb
end
end Fw
namespace L2
open PySem PySem.Spec PyProof.Rows
section
variable {X : Cx}
noncomputable def rCatTA (K : PySem.W.Frag) : R2 := fun x y H Q => ∃ a b xs ys, x = .ref a ∧ y = .ref b ∧ SqT K H a xs ∧ SqT K H b ys ∧ xs.length + ys.length ≤ sizeLine ∧
 (xs = [] → Q (.ref b) H) ∧ (xs ≠ [] → ys = [] → Q (.ref a) H) ∧ (xs ≠ [] → ys ≠ [] → ∀ p, H p = none → Q (.ref p) (upd H p (.tup (xs ++ ys))))
theorem op_catTA : OpR X (binaryOp .Add) (rCatTA X.K) := by
 intro pins s σ H x y v u Q I rx ry h
 obtain ⟨a, b, xs, ys, hx0, hy0, ha, hb, hz, q0, q1, q2⟩ := h
 by_cases hx : xs = []
 ·subst hx0; subst hy0
  cases rx
  cases ry
  obtain ⟨its, r1, p1, _⟩ := I.tuple ha
  obtain ⟨its2, r2, p2, _⟩ := I.tuple hb
  obtain ⟨⟨cls, dd, data, sl⟩, ho, hc, n, hd⟩ := id p1
  obtain ⟨⟨cls2, dd2, data2, sl2⟩, ho2, hc2, n2, hd2⟩ := id p2
  simp only at hc hd hc2 hd2
  subst hc hd hc2 hd2
  have e : its = [] := r1.nil_iff.mpr hx
  exact concat_meets ⟨_, ho, rfl⟩ ⟨_, ho2, rfl⟩ noFill_tuple_add seq_tuple_add PySem.F.slot_tuple_add PySem.F.entry_tuple_add (PySem.F.args_tuple_add_2 _ _)
   (tuple_addW0 a b its.toArray its2.toArray n n2 dd dd2 sl sl2 (by simp [e])) ⟨ho, ho2, .ref b, H, I, rfl, q0 hx⟩
 ·exact op_catT pins s σ H x y v u Q I rx ry ⟨a, b, xs, ys, hx0, hy0, ha, hb, hx, hz, q1 hx, q2 hx⟩
noncomputable def rCatS (K : PySem.W.Frag) : R2 := fun x y H Q => ∃ l b xs zs, x = .ref l ∧ y = .ref b ∧ SqL K H l xs ∧ SqL K H b zs ∧ xs.length + zs.length ≤ sizeLine ∧ ∀ p, H p = none → Q (.ref p) (upd H p (.lst (xs ++ zs)))
theorem op_catS : OpR X (binaryOp .Add) (rCatS X.K) := by
 intro pins s σ H x y v u Q I rx ry h
 obtain ⟨l, b, xs, zs, rfl, rfl, hA, hB, hz, q⟩ := h
 cases rx
 cases ry
 obtain ⟨its, r, p1, _⟩ := I.list hA
 obtain ⟨its2, r2, p2, _⟩ := I.list hB
 obtain ⟨⟨cls, dd, data, sl⟩, ho, hc, n, hd⟩ := id p1.isList
 obtain ⟨⟨cls2, dd2, data2, sl2⟩, ho2, hc2, n2, hd2⟩ := id p2.isList
 simp only at hc hd hc2 hd2
 subst hc hd hc2 hd2
 have hl := r.length
 have hl2 := r2.length
 have e : its.toArray ++ its2.toArray = (its ++ its2).toArray := by simp
 refine concat_meets ⟨_, ho, rfl⟩ ⟨_, ho2, rfl⟩ noFill_list_add seq_list_add PySem.F.slot_list_add PySem.F.entry_list_add (PySem.F.args_list_add_2 _ _)
  (list_addW l b its.toArray its2.toArray n n2 dd dd2 sl sl2 (by rw [List.size_toArray, List.size_toArray]; lia)) ⟨ho, ho2, ?_⟩
 rw [e]
 exact ⟨.ref _, _, I.lnew (t' := s.toks) (r.append r2) (by rw [List.length_append]; lia), rfl, q _ I.fresh⟩
end
end L2
namespace Fw
open PySem PySem.Spec PyProof.Rows L2
section
variable {K : PySem.W.Frag}
theorem szL_eq : szL = sizeLine := rfl
theorem RepL.nil_of {F : Hp} {ts : List T} {vs : List V} (h : RepL K F ts vs) (e : vs = []) : ts = [] := by
 have := h.length
 subst e
 exact List.length_eq_zero_iff.mp (by simpa using this)
theorem new_lst {F H : Hp} {ts : List T} {vs : List V} {Q : VK} {p : Addr} (s : Same F H) (hp : H p = none) (r : RepL K F ts vs) (q : ∀ v' H' F', Grow F H F' H' → Rep K F' (.lst ts) v' → Q v' H') : Q (.ref p) (upd H p (.lst vs)) := by
 have g : Grow F H (upd F p (.lst vs)) (upd H p (.lst vs)) := Grow.new hp
 refine q _ _ _ g ?_
 rw [Rep]
 exact ⟨p, vs, rfl, SqL.of upd_same, RepL.mono (g.same s) _ _ r⟩
theorem new_tup {F H : Hp} {ts : List T} {vs : List V} {Q : VK} {p : Addr} (s : Same F H) (hp : H p = none) (r : RepL K F ts vs) (q : ∀ v' H' F', Grow F H F' H' → Rep K F' (.tup ts) v' → Q v' H') : Q (.ref p) (upd H p (.tup vs)) := by
 have g : Grow F H (upd F p (.tup vs)) (upd H p (.tup vs)) := Grow.new hp
 refine q _ _ _ g ?_
 rw [Rep]
 exact ⟨p, vs, rfl, SqT.of upd_same, RepL.mono (g.same s) _ _ r⟩
theorem rep_tup {F : Hp} {a : Addr} {ts : List T} {vs : List V} (h : SqT K F a vs) (r : RepL K F ts vs) : Rep K F (.tup ts) (.ref a) := by
 rw [Rep]; exact ⟨a, vs, rfl, h, r⟩
theorem sem_add : OpSem K (fun x y H Q => (rI0 fun i j => .int (i + j)) x y H Q ∨ (fun x y H Q => ∃ i j, x = .str i ∧ y = .str j ∧ i.length + j.length ≤ sizeLine ∧ Q (.str (i ++ j)) H) x y H Q ∨ rCatTA K x y H Q ∨ rCatS K x y H Q) fAdd := by
 intro F H v u t t' w Q s hv hu hw q
 cases t with
 | int i =>
  cases t' with
  | int j =>
   cases hw
   cases hv.int
   cases hu.int
   exact .inl ⟨i, j, rfl, rfl, q _ H F Grow.refl (Rep.int' _)⟩
  | _ => cases hw
 | str i =>
  cases t' with
  | str j =>
   have hw : (if i.length + j.length ≤ szL then some (T.str (i ++ j)) else none) = some w := hw
   by_cases hz : i.length + j.length ≤ szL
   ·rw [if_pos hz] at hw
    cases hw
    cases hv.str
    cases hu.str
    exact .inr (.inl ⟨i, j, rfl, rfl, hz, q _ H F Grow.refl (Rep.str' _)⟩)
   ·rw [if_neg hz] at hw; cases hw
  | _ => cases hw
 | tup xs =>
  cases t' with
  | tup ys =>
   have hw : (if xs.length + ys.length ≤ szL then some (T.tup (xs ++ ys)) else none) = some w := hw
   by_cases hz : xs.length + ys.length ≤ szL
   ·rw [if_pos hz] at hw
    cases hw
    obtain ⟨a, vs, rfl, ha, ra⟩ := hv.tup_
    obtain ⟨b, us, rfl, hb, rb⟩ := hu.tup_
    refine .inr (.inr (.inl ⟨a, b, vs, us, rfl, rfl, Same.seqT s ha, Same.seqT s hb, ?_, fun e => ?_, fun e e2 => ?_, fun e e2 p hp => ?_⟩))
    ·have := ra.length; have := rb.length; rw [szL_eq] at hz; lia
    ·refine q _ H F Grow.refl ?_
     rw [ra.nil_of e, List.nil_append]
     exact rep_tup hb rb
    ·refine q _ H F Grow.refl ?_
     rw [rb.nil_of e2, List.append_nil]
     exact rep_tup ha ra
    ·exact new_tup s hp (ra.append rb) q
   ·rw [if_neg hz] at hw; cases hw
  | _ => cases hw
 | lst xs =>
  cases t' with
  | lst ys =>
   have hw : (if xs.length + ys.length ≤ szL then some (T.lst (xs ++ ys)) else none) = some w := hw
   by_cases hz : xs.length + ys.length ≤ szL
   ·rw [if_pos hz] at hw
    cases hw
    obtain ⟨a, vs, rfl, ha, ra⟩ := hv.lst_
    obtain ⟨b, us, rfl, hb, rb⟩ := hu.lst_
    exact .inr (.inr (.inr ⟨a, b, vs, us, rfl, rfl, ha, hb, by have := ra.length; have := rb.length; rw [szL_eq] at hz; lia, fun p hp => new_lst s hp (ra.append rb) q⟩))
   ·rw [if_neg hz] at hw; cases hw
  | _ => cases hw
 | _ => cases hw
end
section
variable {X : Cx} {a b c : Expr} {da db dc : D} {pos p p2 : Pos}
theorem ce_add (ha : CE X a da) (hb : CE X b db) : CE X (.BinOp a .Add b pos) (dBin fAdd da db) := ce_bin (op_add.or (op_add_str.or (op_catTA.or op_catS))) sem_add ha hb
end
end Fw
namespace Fw
open PySem PySem.Spec PyProof.Rows L2
section
variable {K : PySem.W.Frag}
theorem sem_mul : OpSem K (rI CMul fun i j => .int (i * j)) fMulA := sem_ii (fun i j => .int (i * j)) (fun i j => .int (i * j)) CMul (fun i j H Q c q => ⟨i, j, rfl, rfl, c, q⟩)
 (fun t u w h => by
  unfold fMulA at h
  cases t <;> cases u <;> first | cases h | skip
  rename_i i j
  have h : (if (-(2 ^ 64) < i ∧ i < 2 ^ 64) ∨ (-(2 ^ 64) < j ∧ j < 2 ^ 64) then some (T.int (i * j)) else none) = some w := h
  by_cases hj : (-(2 ^ 64) < i ∧ i < 2 ^ 64) ∨ (-(2 ^ 64) < j ∧ j < 2 ^ 64)
  ·rw [if_pos hj] at h
   cases h
   exact ⟨_, _, rfl, rfl, rfl, hj⟩
  ·rw [if_neg hj] at h; cases h) fun F i j => Rep.int' _
theorem RepL.atI {F : Hp} {ts : List T} {vs : List V} {i : Int} {t : T} (h : RepL K F ts vs) (e : Fw.atI ts i = some t) : ∃ v, L2.atI vs i = some v ∧ Rep K F t v := by
 have hl := h.length
 unfold Fw.atI at e
 obtain ⟨j, h1, h2⟩ := Option.bind_eq_some_iff.mp e
 obtain ⟨v, hv, rv⟩ := h.get h2
 refine ⟨v, ?_, rv⟩
 unfold L2.atI
 have : L2.ixN vs.length i = some j := by rw [← hl]; exact h1
 rw [this]
 exact hv
theorem Paired.atI {α β : Type} {P : α → β → Prop} {xs : List α} {ys : List β} {i : Int} {y : β} (h : Paired P xs ys) (e : Fw.atI ys i = some y) : ∃ x, L2.atI xs i = some x ∧ P x y := by
 have hl := h.length
 unfold Fw.atI at e
 obtain ⟨j, h1, h2⟩ := Option.bind_eq_some_iff.mp e
 have get : ∀ {xs : List α} {ys : List β} {j : Nat} {y : β}, Paired P xs ys → ys[j]? = some y → ∃ x, xs[j]? = some x ∧ P x y := by
  intro xs ys j y o
  induction o generalizing j with
  | nil => intro e; simp at e
  | cons r _ ih =>
   intro e
   cases j with
   | zero => simp at e; subst e; exact ⟨_, rfl, r⟩
   | succ j =>
    obtain ⟨v, h1, h2⟩ := ih (j := j) (by simpa using e)
    exact ⟨v, by simpa using h1, h2⟩
 obtain ⟨v, hv, rv⟩ := get h h2
 refine ⟨v, ?_, rv⟩
 unfold L2.atI
 have : L2.ixN xs.length i = some j := by rw [hl]; exact h1
 rw [this]
 exact hv
end
section
variable {X : Cx} {a b c : Expr} {da db dc : D} {pos p p2 : Pos}
theorem ce_mul (ha : CE X a da) (hb : CE X b db) : CE X (.BinOp a .Mult b pos) (dBin fMulA da db) := ce_bin op_mul sem_mul ha hb
theorem ce_idx (ha : CE X a da) (hb : CE X b db) (hp : PlainIx b := by intro _ _; rfl) : CE X (.Subscript a b pos) (dIdx da db) :=
 PE.imp (pe_ix ix_seq ha hb hp) fun σ H Q hX11_ => by
  obtain ⟨F, α, e, μ, S, h⟩ := hX11_
  refine ⟨F, α, e, μ, S, ?_⟩
  refine (R.wp_bind h).mono (fun x μ1 h v H1 F1 α1 x1 S1 o1 => ⟨F1, α1, e, μ1, S1, ?_⟩) fun _ _ h => h
  refine (R.wp_bind h).mono (fun y μ2 h v2 H2 F2 α2 x2 S2 o2 => ?_) fun _ _ h => h.mono x1
  obtain ⟨w, h9, post⟩ := R.wp_lift h
  obtain ⟨u, hu, h⟩ := Option.bind_eq_some_iff.mp h9
  have nu := now_of S2.st o2 hu
  have fin : ∀ {v'}, SvOk X.K F2 α2 v' w → Q v' H2 := fun {v'} o => post v' H2 F2 α2 (x1.trans x2) S2 o
  have o1' := o1.mono x2.same x2.pre
  have gen : ∀ t, rd μ2 x = some t → ap1 (fun t => fIdx t u) (some t) = some w → rIx X.K v v2 H2 Q := fun t hr h => by
   obtain ⟨t', w', e1, h, rfl⟩ := ap1_eq h
   cases e1
   have nt := now_of S2.st o1' hr
   cases t with
   | lst ts =>
    cases u with
    | int i =>
     cases nu.int
     obtain ⟨a, vs, rfl, hq, hl⟩ := nt.lst_
     obtain ⟨v', g1, g2⟩ := hl.atI h
     exact .inl ⟨a, vs, i, v', rfl, rfl, hq, g1, fin g2⟩
    | _ => cases h
   | tup ts =>
    cases u with
    | int i =>
     cases nu.int
     obtain ⟨a, vs, rfl, hq, hl⟩ := nt.tup_
     obtain ⟨v', g1, g2⟩ := hl.atI h
     exact .inr (.inl ⟨a, vs, i, v', rfl, rfl, Same.seqT S2.st.ext hq, g1, fin g2⟩)
    | _ => cases h
   | str z =>
    cases u with
    | int i =>
     cases nu.int
     cases nt.str
     have h : (if z.length ≤ szL then (Fw.atI z.cps.toList i).map fun c => T.str ⟨#[c]⟩ else none) = some w' := h
     by_cases hz : z.length ≤ szL
     ·rw [if_pos hz] at h
      obtain ⟨ch, g1, rfl⟩ := Option.map_eq_some_iff.mp h
      exact .inr (.inr ⟨z, i, ch, rfl, rfl, hz, g1, fin (Rep.str' (K := X.K) (F := F2) _)⟩)
     ·rw [if_neg hz] at h; cases h
    | _ => cases h
   | _ => cases u <;> cases h
  cases x with
  | val t => exact gen t rfl (by unfold idxS at h; exact h)
  | cel k =>
   cases q : rd μ2 (.cel k) with
   | none => unfold idxS at h; simp only at h; rw [q] at h; cases h
   | some t => exact gen t q (by unfold idxS at h; simp only at h; rw [q] at h; exact h)
  | box xs =>
   cases u with
   | int i =>
    cases nu.int
    obtain ⟨y', h1, rfl⟩ := Option.map_eq_some_iff.mp (show (Fw.atI xs i).map pick = some w from h)
    obtain ⟨a, vs, rfl, hq, hp⟩ := o1'
    obtain ⟨v', g1, g2⟩ := Paired.atI hp h1
    refine .inr (.inl ⟨a, vs, i, v', rfl, rfl, Same.seqT S2.st.ext hq, g1, fin ?_⟩)
    cases y' with
    | inl t => exact g2
    | inr k => exact g2
   | _ => cases h
theorem ce_len (hm : X.mg "len" = none) (ha : CE X a da) (hg : Gl X "len" := by rfl) (hs1 : starEach [a] X.env = (false, eval a X.env) :: starEach [] X.env := by rfl) (hpl : (backTo pos (starEach [] X.env)).any (·.1) = false := by rfl) :
  CE X (.Call (.Name "len" p) [a] [] pos) (dLen da) :=
 PE.imp (pe_callB (call_len_seq.or (call_len_str.or call_lenD)) hg hm PySem.boot_len (ca_cons ha ca_nil hs1) (by decide) (by decide) hs1 hpl) fun σ H Q hX11_ => by
  obtain ⟨F, α, e, μ, S, h⟩ := hX11_
  refine args1 ⟨F, α, e, μ, S, (R.wp_bind h).mono (fun x μ1 h v H1 F1 α1 x1 S1 o1 => ?_) fun _ _ h => h⟩
  obtain ⟨w, h9, post⟩ := R.wp_lift h
  obtain ⟨w', h, rfl⟩ := Option.map_eq_some_iff.mp h9
  have fin : ∀ {v'}, Rep X.K F1 w' v' → Q v' H1 := fun {v'} o => post v' H1 F1 α1 x1 S1 o
  have gen : ∀ t, rd μ1 x = some t → fLen t = some w' → (∃ p ys, [v] = [V.ref p] ∧ (SqL X.K H1 p ys ∨ SqT X.K H1 p ys) ∧ Q (.int ys.length) H1) ∨ (∃ z, [v] = [V.str z] ∧ z.length ≤ sizeLine ∧ Q (.int z.length) H1) ∨
    ∃ d kvs, [v] = [V.ref d] ∧ H1 d = some (.dK kvs) ∧ Q (.int kvs.length) H1 := fun t hr h => by
   have nt := now_of S1.st o1 hr
   cases t with
   | lst ts =>
    cases h
    obtain ⟨a, vs, rfl, hq, hl⟩ := nt.lst_
    exact .inl ⟨a, vs, rfl, .inl hq, fin (by rw [hl.length]; exact Rep.int' _)⟩
   | tup ts =>
    cases h
    obtain ⟨a, vs, rfl, hq, hl⟩ := nt.tup_
    exact .inl ⟨a, vs, rfl, .inr (Same.seqT S1.st.ext hq), fin (by rw [hl.length]; exact Rep.int' _)⟩
   | str z =>
    cases nt.str
    have h : (if z.length ≤ szL then some (T.int z.length) else none) = some w' := h
    by_cases hz : z.length ≤ szL
    ·rw [if_pos hz] at h
     cases h
     exact .inr (.inl ⟨z, rfl, hz, fin (Rep.int' _)⟩)
    ·rw [if_neg hz] at h; cases h
   | dct kts =>
    cases h
    obtain ⟨a, kvs, rfl, hq, hl⟩ := nt
    exact .inr (.inr ⟨a, kvs, rfl, hq, fin (by rw [hl.length]; exact Rep.int' _)⟩)
   | _ => cases h
  cases x with
  | val t => exact gen t rfl (by unfold lenS at h; exact h)
  | cel k =>
   cases q : rd μ1 (.cel k) with
   | none => unfold lenS at h; simp only at h; rw [q] at h; cases h
   | some t => exact gen t q (by unfold lenS at h; simp only at h; rw [q] at h; exact h)
  | box xs =>
   cases h
   obtain ⟨a, vs, rfl, hq, hp⟩ := o1
   exact .inl ⟨a, vs, rfl, .inr (Same.seqT S1.st.ext hq), fin (by rw [hp.length]; exact Rep.int' _)⟩
end
end Fw
namespace Fw
open PySem PySem.Spec PyProof.Rows L2
mutual
noncomputable def toPy : T → PyData
 | .non => .none
 | .bl b => .bool b
 | .int i => .int i
 | .str x => .str x
 | .lst ts => .list (toPys ts)
 | .tup ts => .tuple (toPys ts)
 | .dct _ => .dict []
 | .exc _ _ => .dict []
noncomputable def toPys : List T → List PyData
 | [] => []
 | t :: ts => toPy t :: toPys ts
end
mutual
theorem can_of : ∀ (n : Nat) (t : T), okT n t = true → (toPy t).canLay0 = true ∧ (toPy t).depth ≤ n
 | n, .non, _ => ⟨by rw [toPy, PyData.canLay0], by rw [toPy, PyData.depth]; exact Nat.zero_le _⟩
 | n, .bl _, _ => ⟨by rw [toPy, PyData.canLay0], by rw [toPy, PyData.depth]; exact Nat.zero_le _⟩
 | n, .int _, _ => ⟨by rw [toPy, PyData.canLay0], by rw [toPy, PyData.depth]; exact Nat.zero_le _⟩
 | n, .str x, h => by
  unfold okT at h
  exact ⟨by rw [toPy, PyData.canLay0]; exact h, by rw [toPy, PyData.depth]; exact Nat.zero_le _⟩
 | 0, .lst ts, h => by rw [okT] at h; cases h
 | n + 1, .lst ts, h => by
  rw [okT] at h
  obtain ⟨h1, h2⟩ := cans_of n ts h
  exact ⟨by rw [toPy, PyData.canLay0]; exact h1, by rw [toPy, PyData.depth]; lia⟩
 | 0, .tup ts, h => by rw [okT] at h; cases h
 | n + 1, .tup ts, h => by
  rw [okT] at h
  obtain ⟨h1, h2⟩ := cans_of n ts h
  exact ⟨by rw [toPy, PyData.canLay0]; exact h1, by rw [toPy, PyData.depth]; lia⟩
 | n, .dct _, h => by unfold okT at h; cases h
 | n, .exc _ _, h => by unfold okT at h; cases h
theorem cans_of : ∀ (n : Nat) (ts : List T), okTs n ts = true → PyData.canLayAll0 (toPys ts) = true ∧ PyData.depthAll (toPys ts) ≤ n
 | n, [], _ => ⟨by rw [toPys, PyData.canLayAll0], by rw [toPys, PyData.depthAll]; exact Nat.zero_le _⟩
 | n, t :: ts, h => by
  rw [okTs, Bool.and_eq_true] at h
  obtain ⟨h1, h2⟩ := can_of n t h.1
  obtain ⟨h3, h4⟩ := cans_of n ts h.2
  exact ⟨by rw [toPys, PyData.canLayAll0, h1, h3]; rfl, by rw [toPys, PyData.depthAll]; lia⟩
end
mutual
theorem eqv_of : ∀ (n : Nat) (t u : T), okT n t = true → okT n u = true → PyData.eqv (toPy t) (toPy u) = eqT t u
 | n, .non, u, _, h => by cases u <;> first | (simp [toPy, eqT, PyData.eqv]; done) | (unfold okT at h; cases h)
 | n, .bl a, u, _, h => by cases u <;> first | (simp [toPy, eqT, PyData.eqv]; done) | (unfold okT at h; cases h)
 | n, .int a, u, _, h => by cases u <;> first | (simp [toPy, eqT, PyData.eqv]; done) | (unfold okT at h; cases h)
 | n, .str a, u, _, h => by cases u <;> first | (simp [toPy, eqT, PyData.eqv]; done) | (unfold okT at h; cases h)
 | 0, .lst a, u, h, _ => by rw [okT] at h; cases h
 | n + 1, .lst a, u, h1, h => by
  cases u with
  | lst b => rw [toPy, toPy, eqT, PyData.eqv]; rw [okT] at h1 h; exact eqvs_of n a b h1 h
  | dct _ => unfold okT at h; cases h
  | exc _ _ => unfold okT at h; cases h
  | _ => simp [toPy, eqT, PyData.eqv]
 | 0, .tup a, u, h, _ => by rw [okT] at h; cases h
 | n + 1, .tup a, u, h1, h => by
  cases u with
  | tup b => rw [toPy, toPy, eqT, PyData.eqv]; rw [okT] at h1 h; exact eqvs_of n a b h1 h
  | dct _ => unfold okT at h; cases h
  | exc _ _ => unfold okT at h; cases h
  | _ => simp [toPy, eqT, PyData.eqv]
 | n, .dct _, u, h, _ => by unfold okT at h; cases h
 | n, .exc _ _, u, h, _ => by unfold okT at h; cases h
theorem eqvs_of : ∀ (n : Nat) (ts us : List T), okTs n ts = true → okTs n us = true → PyData.eqvAll (toPys ts) (toPys us) = eqTs ts us
 | n, [], [], _, _ => by rw [toPys, PyData.eqvAll, eqTs]
 | n, [], u :: us, _, _ => by rw [toPys, toPys, PyData.eqvAll, eqTs]
 | n, t :: ts, [], _, _ => by rw [toPys, toPys, PyData.eqvAll, eqTs]
 | n, t :: ts, u :: us, h1, h2 => by
  rw [okTs, Bool.and_eq_true] at h1 h2
  rw [toPys, toPys, PyData.eqvAll, eqTs, eqv_of n t u h1.1 h2.1, eqvs_of n ts us h1.2 h2.2]
end
section
variable {X : Cx} {pins : List (Addr × Obj)} {σ : L2.St} {H : Hp} {s : Shared}
mutual
theorem reads_of (I : Inv X pins σ H s) : ∀ (n : Nat) (t : T) (v : V) (u : Value), Rep X.K H t v → RelV v u → okT n t = true → ∃ as, Reads s.heap u (toPy t) as
 | n, .non, v, u, h, r, _ => by cases h.of_non; cases r; rw [toPy]; exact ⟨_, .none⟩
 | n, .bl b, v, u, h, r, _ => by cases h.of_bl; cases r; rw [toPy]; exact ⟨_, .bool b⟩
 | n, .int i, v, u, h, r, _ => by cases h.of_int; obtain ⟨t, rfl⟩ := r; rw [toPy]; exact ⟨_, .int i t⟩
 | n, .str i, v, u, h, r, _ => by cases h.of_str; obtain ⟨t, rfl⟩ := r; rw [toPy]; exact ⟨_, .str i t⟩
 | 0, .lst ts, v, u, h, r, ok => by rw [okT] at ok; cases ok
 | n + 1, .lst ts, v, u, h, r, ok => by
  rw [Rep] at h
  rw [okT] at ok
  obtain ⟨a, vs, rfl, hq, hl⟩ := h
  cases r
  obtain ⟨its, rv, pl, _⟩ := I.list hq
  obtain ⟨o, ho, hc, m, hd⟩ := pl.isList
  obtain ⟨as, ra⟩ := readsAll_of I n ts vs its hl rv ok
  rw [toPy]
  exact ⟨_, .list ho hc hd (by simpa using ra)⟩
 | 0, .tup ts, v, u, h, r, ok => by rw [okT] at ok; cases ok
 | n + 1, .tup ts, v, u, h, r, ok => by
  rw [Rep] at h
  rw [okT] at ok
  obtain ⟨a, vs, rfl, hq, hl⟩ := h
  cases r
  obtain ⟨its, rv, pl, _⟩ := I.tuple hq
  obtain ⟨o, ho, hc, m, hd⟩ := pl
  obtain ⟨as, ra⟩ := readsAll_of I n ts vs its hl rv ok
  rw [toPy]
  exact ⟨_, .tuple ho hc hd (by simpa using ra)⟩
 | n, .dct _, v, u, h, r, ok => by unfold okT at ok; cases ok
 | n, .exc _ _, v, u, h, r, ok => by unfold okT at ok; cases ok
theorem readsAll_of (I : Inv X pins σ H s) : ∀ (n : Nat) (ts : List T) (vs : List V) (us : List Value), RepL X.K H ts vs → Vals vs us → okTs n ts = true → ∃ as, ReadsAll s.heap us (toPys ts) as
 | n, [], vs, us, h, r, _ => by
  rw [RepL] at h; subst h; cases r
  rw [toPys]; exact ⟨_, .nil⟩
 | n, t :: ts, vs, us, h, r, ok => by
  rw [RepL] at h
  obtain ⟨v, vs', rfl, q, hl⟩ := h
  rw [okTs, Bool.and_eq_true] at ok
  cases r with
  | cons r1 r2 =>
   obtain ⟨as, ra⟩ := reads_of I n t v _ q r1 ok.1
   obtain ⟨bs, rb⟩ := readsAll_of I n ts vs' _ hl r2 ok.2
   rw [toPys]
   exact ⟨_, .cons ra rb⟩
end
end
theorem Now.rep {K : PySem.W.Frag} {F H : Hp} {v : V} {t : T} (s : Same F H) (h : Now K F H v t) (hx : ∀ c n, t ≠ .exc c n) : Rep K H t v := by
 cases t with
 | lst ts => rw [Rep]; obtain ⟨a, vs, e, q, r⟩ := h; exact ⟨a, vs, e, q, RepL.mono s _ _ r⟩
 | tup ts => rw [Rep]; obtain ⟨a, vs, e, q, r⟩ := h; exact ⟨a, vs, e, Same.seqT s q, RepL.mono s _ _ r⟩
 | dct ts => rw [Rep]; obtain ⟨a, vs, e, q, r⟩ := h; exact ⟨a, vs, e, q, RepD.mono s _ _ r⟩
 | exc c n => exact absurd rfl (hx c n)
 | _ => exact Rep.mono s _ _ h
noncomputable def rEqT (K : PySem.W.Frag) (neg : Bool) : R2 := fun x y H Q => ∃ t u, Rep K H t x ∧ Rep K H u y ∧ okT 100 t = true ∧ okT 100 u = true ∧ Q (.bl (if neg then !eqT t u else eqT t u)) H
section
variable {X : Cx} {a b c : Expr} {da db dc : D} {pos p p2 : Pos} {k : Nat}
theorem op_eqT (hr : Room k X.A) : OpR X (compareOp .Eq) (rEqT X.K false) := by
 intro pins s σ H x y v u Q I rx ry h
 obtain ⟨t, t', h1, h2, o1, o2, q⟩ := h
 obtain ⟨as, r1⟩ := reads_of I 100 t x v h1 rx o1
 obtain ⟨bs, r2⟩ := reads_of I 100 t' y u h2 ry o2
 obtain ⟨c1, d1⟩ := can_of 100 t o1
 obtain ⟨c2, d2⟩ := can_of 100 t' o2
 refine SeqAt.compareEq_reads r1 r2 c1 c2 (by have := hr.un; lia) ⟨.bl _, H, I, rfl, ?_⟩
 rw [eqv_of 100 t t' o1 o2]
 exact q
theorem op_neT (hr : Room k X.A) : OpR X (compareOp .NotEq) (rEqT X.K true) := by
 intro pins s σ H x y v u Q I rx ry h
 obtain ⟨t, t', h1, h2, o1, o2, q⟩ := h
 obtain ⟨as, r1⟩ := reads_of I 100 t x v h1 rx o1
 obtain ⟨bs, r2⟩ := reads_of I 100 t' y u h2 ry o2
 obtain ⟨c1, d1⟩ := can_of 100 t o1
 obtain ⟨c2, d2⟩ := can_of 100 t' o2
 refine SeqAt.compareNe_reads r1 r2 c1 c2 (by have := hr.un; lia) ⟨.bl _, H, I, rfl, ?_⟩
 rw [eqv_of 100 t t' o1 o2]
 exact q
theorem ok_noexc {n : Nat} {t : T} (h : okT n t = true) : ∀ c m, t ≠ .exc c m := fun c m e => by subst e; unfold okT at h; cases h
theorem sem_eq {K : PySem.W.Frag} : OpSem K (fun x y H Q => rEqT K false x y H Q ∨ rEq x y H Q) fEq := by
 intro F H v u t t' w Q s hv hu hw q
 by_cases hs : ∃ a b, t = .str a ∧ t' = .str b
 ·obtain ⟨a, b, rfl, rfl⟩ := hs
  cases hw
  cases hv.str
  cases hu.str
  refine .inr ⟨rfl, ?_⟩
  have e : decide (V.str a = V.str b) = (a == b) := dec_str
  rw [e]
  exact q _ H F Grow.refl (Rep.bl' _)
 ·have hw : (if okT 100 t = true ∧ okT 100 t' = true then some (T.bl (eqT t t')) else none) = some w := by
   unfold fEq at hw
   split at hw
   ·exact absurd ⟨_, _, rfl, rfl⟩ hs
   ·exact hw
  by_cases ho : okT 100 t = true ∧ okT 100 t' = true
  ·rw [if_pos ho] at hw
   cases hw
   exact .inl ⟨t, t', hv.rep s (ok_noexc ho.1), hu.rep s (ok_noexc ho.2), ho.1, ho.2, q _ H F Grow.refl (Rep.bl' _)⟩
  ·rw [if_neg ho] at hw; cases hw
theorem sem_ne {K : PySem.W.Frag} : OpSem K (fun x y H Q => rEqT K true x y H Q ∨ rNe x y H Q) fNe := by
 intro F H v u t t' w Q s hv hu hw q
 by_cases hs : ∃ a b, t = .str a ∧ t' = .str b
 ·obtain ⟨a, b, rfl, rfl⟩ := hs
  cases hw
  cases hv.str
  cases hu.str
  refine .inr ⟨rfl, ?_⟩
  have e : decide (V.str a = V.str b) = (a == b) := dec_str
  rw [e]
  exact q _ H F Grow.refl (Rep.bl' _)
 ·have hw : (if okT 100 t = true ∧ okT 100 t' = true then some (T.bl (!eqT t t')) else none) = some w := by
   unfold fNe at hw
   split at hw
   ·exact absurd ⟨_, _, rfl, rfl⟩ hs
   ·exact hw
  by_cases ho : okT 100 t = true ∧ okT 100 t' = true
  ·rw [if_pos ho] at hw
   cases hw
   exact .inl ⟨t, t', hv.rep s (ok_noexc ho.1), hu.rep s (ok_noexc ho.2), ho.1, ho.2, q _ H F Grow.refl (Rep.bl' _)⟩
  ·rw [if_neg ho] at hw; cases hw
theorem ce_eq (hr : Room k X.A) (ha : CE X a da) (hb : CE X b db) : CE X (.Compare a [.Eq] [b] pos) (dBin fEq da db) := ce_cmp ((op_eqT hr).or op_eq) sem_eq (nomark _) ha hb
theorem ce_ne (hr : Room k X.A) (ha : CE X a da) (hb : CE X b db) : CE X (.Compare a [.NotEq] [b] pos) (dBin fNe da db) := ce_cmp ((op_neT hr).or op_ne) sem_ne (nomark _) ha hb
theorem ct_eq (hr : Room k X.A) (ha : CE X a da) (hb : CE X b db) : CT X (.Compare a [.Eq] [b] pos) (dBin fEq da db) := ct_cmp ((op_eqT hr).or op_eq) sem_eq (nomark _) ha hb
noncomputable def TyN (K : PySem.W.Frag) (H : Hp) (v : V) (ty : String) : Prop := match v with
 | .non => ty = "NoneType"
 | .bl _ => ty = "bool"
 | .int _ => ty = "int"
 | .str _ => ty = "str"
 | .ref a => (ty = "list" ∧ ∃ xs, SqL K H a xs) ∨ (ty = "tuple" ∧ ∃ xs, SqT K H a xs) ∨ (ty = "dict" ∧ ∃ kvs, H a = some (.dK kvs))
 | _ => False
theorem call_isT {cn : String} : CallR X (.builtin "isinstance") (fun xs H Q => ∃ v ty r, xs = [v, .ty cn] ∧ TyN X.K H v ty ∧ PySem.W.kitOne X.K (.type ty) (.type cn) = some r ∧ Q (.bl r) H) := by
 intro pins s σ H xs us Q I r h
 obtain ⟨v, ty, b, rfl, hty, e, q⟩ := h
 obtain ⟨u1, u2, rfl, r1, r2⟩ := vals2 r
 have r2 : u2 = Value.type cn := r2
 subst r2
 have fin : ∀ tk, EP X pins σ Q (.bool b) { s with toks := tk } := fun tk => ⟨.bl b, H, I.tok _, rfl, q⟩
 cases v with
 | non => cases (show u1 = Value.none from r1); cases hty; exact PySem.W.kia_one PySem.W.kitx_none I.kIn True.intro e (fun z => nomatch z) fin
 | bl y => cases (show u1 = Value.bool y from r1); cases hty; exact PySem.W.kia_one PySem.W.kitx_bool I.kIn True.intro e (fun z => nomatch z) fin
 | int i => obtain ⟨t, q⟩ := (show ∃ t, u1 = Value.int i t from r1); cases q; cases hty; exact PySem.W.kia_one PySem.W.kitx_int I.kIn True.intro e (fun z => nomatch z) fin
 | str y => obtain ⟨t, q⟩ := (show ∃ t, u1 = Value.str y t from r1); cases q; cases hty; exact PySem.W.kia_one PySem.W.kitx_str I.kIn True.intro e (fun z => nomatch z) fin
 | ref a =>
  cases (show u1 = Value.ref a from r1)
  rcases hty with ⟨rfl, xs, hq⟩ | ⟨rfl, xs, hq⟩ | ⟨rfl, kvs, hq⟩
  ·obtain ⟨its, _, pl, _⟩ := I.list hq
   obtain ⟨o, ho, hc, _⟩ := pl.isList
   exact PySem.W.kia_one PySem.W.kitx_list I.kIn ⟨o, ho, hc⟩ e (fun z => nomatch z) fin
  ·obtain ⟨its, _, pl, _⟩ := I.tuple hq
   obtain ⟨o, ho, hc, _⟩ := pl
   exact PySem.W.kia_one PySem.W.kitx_tuple I.kIn ⟨o, ho, hc⟩ e (fun z => nomatch z) fin
  ·obtain ⟨_, _, vs, _, pz⟩ := (show ObjOk X.prog X.w H s.heap a (.dK kvs) from I.hok a _ hq)
   obtain ⟨o, es, _, h1, h2, _⟩ := pz
   exact PySem.W.kia_one PySem.W.kitx_dict I.kIn ⟨o, h1, h2.1⟩ e (fun z => nomatch z) fin
 | _ => exact hty.elim
noncomputable def Kd.name : Kd → String
 | .int => "int"
 | .bool => "bool"
 | .str => "str"
 | .list => "list"
 | .tuple => "tuple"
 | .dict => "dict"
noncomputable def kdT : T → String
 | .non => "NoneType"
 | .bl _ => "bool"
 | .int _ => "int"
 | .str _ => "str"
 | .lst _ => "list"
 | .tup _ => "tuple"
 | .dct _ => "dict"
 | .exc _ _ => ""
noncomputable def kitB (x y : String) : Option Bool := if (Value.type x == Value.type y) = true then some true else if PySem.W.kitMeta y = true then (PySem.fastBuiltinMro x).map (·.contains (Value.type y)) else none
noncomputable def kitTbl (x y : String) : Bool := x == y || (x == "bool" && y == "int")
theorem kitB_all : ∀ x ∈ ["NoneType", "bool", "int", "str", "list", "tuple", "dict"], ∀ y ∈ ["int", "bool", "str", "list", "tuple", "dict"], kitB x y = some (kitTbl x y) := by decide +kernel
theorem kit_all {K : PySem.W.Frag} (kd : Kd) (t : T) (hx : ∀ c n, t ≠ .exc c n) : PySem.W.kitOne K (.type (kdT t)) (.type kd.name) = some (isK kd t) := by
 have e : PySem.W.kitOne K (.type (kdT t)) (.type kd.name) = kitB (kdT t) kd.name := rfl
 have h1 : kdT t ∈ ["NoneType", "bool", "int", "str", "list", "tuple", "dict"] := by cases t <;> first | exact absurd rfl (hx _ _) | simp [kdT]
 have h2 : kd.name ∈ ["int", "bool", "str", "list", "tuple", "dict"] := by cases kd <;> simp [Kd.name]
 have h3 : kitTbl (kdT t) kd.name = isK kd t := by cases kd <;> cases t <;> first | exact absurd rfl (hx _ _) | rfl
 rw [e, kitB_all _ h1 _ h2, h3]
theorem ce_isK (kd : Kd) {cn : Str} (hm : X.mg "isinstance" = none) (hm2 : X.mg cn = none) (hv2 : bootBuiltins cn = some (.type kd.name)) (ha : CE X a da) (hn2 : cn ≠ "__name__") (hd2 : (cn == ("__debug__" : Str)) = false) (hg : Gl X "isinstance" := by rfl) (hg2 : Gl X cn := by rfl)
  (hs1 : starEach [a, .Name cn p2] X.env = (false, eval a X.env) :: starEach [.Name cn p2] X.env := by rfl) (hs2 : starEach [.Name cn p2] X.env = (false, eval (.Name cn p2) X.env) :: starEach [] X.env := by rfl) (hpl : (backTo pos (starEach [.Name cn p2] X.env)).any (·.1) = false := by rfl) :
  CE X (.Call (.Name "isinstance" p) [a, .Name cn p2] [] pos) (dIs kd da) :=
 PE.imp (pe_callB call_isT hg hm (by decide +kernel) (pa_cons ha (pa_cons (pe_bltn (v := .ty kd.name) hg2 hm2 hv2 rfl hn2 hd2) pa_nil hs2) hs1) (by decide) (by decide) hs1 hpl) fun σ H Q hX11_ => by
  obtain ⟨F, α, e, μ, S, h⟩ := hX11_
  refine ⟨F, α, e, μ, S, (R.wp_bind h).mono (fun x μ1 h v H1 F1 α1 x1 S1 o1 => ?_) fun _ _ h => h⟩
  obtain ⟨w, h9, post⟩ := R.wp_lift h
  obtain ⟨w', h, rfl⟩ := Option.map_eq_some_iff.mp h9
  have fin : ∀ {v'}, Rep X.K F1 w' v' → Q v' H1 := fun {v'} o => post v' H1 F1 α1 x1 S1 o
  have gen : ∀ t, rd μ1 x = some t → isT kd t = some w' → ∃ v' ty r, [v, V.ty kd.name] = [v', .ty kd.name] ∧ TyN X.K H1 v' ty ∧ PySem.W.kitOne X.K (.type ty) (.type kd.name) = some r ∧ Q (.bl r) H1 := fun t hr h => by
   have nt := now_of S1.st o1 hr
   have hx : ∀ c n, t ≠ .exc c n := fun c n z => by subst z; cases h
   have ew : w' = .bl (isK kd t) := by
    cases t <;> first | exact (Option.some.inj h).symm | cases h
   subst ew
   refine ⟨v, kdT t, _, rfl, ?_, kit_all kd t hx, fin (Rep.bl' _)⟩
   cases t with
   | non => rw [show v = .non from Rep.of_non (K := X.K) (F := F1) nt]; rfl
   | bl b => rw [nt.bl]; rfl
   | int b => rw [nt.int]; rfl
   | str b => rw [nt.str]; rfl
   | lst ts => obtain ⟨a, vs, rfl, hq, _⟩ := nt.lst_; exact .inl ⟨rfl, vs, hq⟩
   | tup ts => obtain ⟨a, vs, rfl, hq, _⟩ := nt.tup_; exact .inr (.inl ⟨rfl, vs, Same.seqT S1.st.ext hq⟩)
   | dct ts => obtain ⟨a, vs, rfl, hq, _⟩ := nt; exact .inr (.inr ⟨rfl, vs, hq⟩)
   | exc c n => exact absurd rfl (hx c n)
  cases x with
  | val t => exact gen t rfl h
  | cel j =>
   cases q : rd μ1 (.cel j) with
   | none => rw [isS_cel, q] at h; cases h
   | some t => exact gen t q (by rw [isS_cel, q] at h; exact h)
  | box xs =>
   cases h
   obtain ⟨a, vs, rfl, hq, _⟩ := o1
   exact ⟨_, "tuple", _, rfl, .inr (.inl ⟨rfl, vs, Same.seqT S1.st.ext hq⟩), kit_all kd (.tup []) (fun c n z => by cases z), fin (Rep.bl' _)⟩
theorem ce_is_int (hm : X.mg "isinstance" = none) (hm2 : X.mg "int" = none) (ha : CE X a da) (hg : Gl X "isinstance" := by rfl) (hg2 : Gl X "int" := by rfl)
  (hs1 : starEach [a, .Name "int" p2] X.env = (false, eval a X.env) :: starEach [.Name "int" p2] X.env := by rfl) (hs2 : starEach [.Name "int" p2] X.env = (false, eval (.Name "int" p2) X.env) :: starEach [] X.env := by rfl) (hpl : (backTo pos (starEach [.Name "int" p2] X.env)).any (·.1) = false := by rfl) :
  CE X (.Call (.Name "isinstance" p) [a, .Name "int" p2] [] pos) (dIs .int da) := ce_isK .int hm hm2 (by decide +kernel) ha (by decide +kernel) (by decide +kernel) hg hg2 hs1 hs2 hpl
theorem ce_is_bool (hm : X.mg "isinstance" = none) (hm2 : X.mg "bool" = none) (ha : CE X a da) (hg : Gl X "isinstance" := by rfl) (hg2 : Gl X "bool" := by rfl)
  (hs1 : starEach [a, .Name "bool" p2] X.env = (false, eval a X.env) :: starEach [.Name "bool" p2] X.env := by rfl) (hs2 : starEach [.Name "bool" p2] X.env = (false, eval (.Name "bool" p2) X.env) :: starEach [] X.env := by rfl) (hpl : (backTo pos (starEach [.Name "bool" p2] X.env)).any (·.1) = false := by rfl) :
  CE X (.Call (.Name "isinstance" p) [a, .Name "bool" p2] [] pos) (dIs .bool da) := ce_isK .bool hm hm2 (by decide +kernel) ha (by decide +kernel) (by decide +kernel) hg hg2 hs1 hs2 hpl
theorem ce_is_tuple (hm : X.mg "isinstance" = none) (hm2 : X.mg "tuple" = none) (ha : CE X a da) (hg : Gl X "isinstance" := by rfl) (hg2 : Gl X "tuple" := by rfl)
  (hs1 : starEach [a, .Name "tuple" p2] X.env = (false, eval a X.env) :: starEach [.Name "tuple" p2] X.env := by rfl) (hs2 : starEach [.Name "tuple" p2] X.env = (false, eval (.Name "tuple" p2) X.env) :: starEach [] X.env := by rfl) (hpl : (backTo pos (starEach [.Name "tuple" p2] X.env)).any (·.1) = false := by rfl) :
  CE X (.Call (.Name "isinstance" p) [a, .Name "tuple" p2] [] pos) (dIs .tuple da) := ce_isK .tuple hm hm2 (by decide +kernel) ha (by decide +kernel) (by decide +kernel) hg hg2 hs1 hs2 hpl
end
end Fw
namespace Fw
open PySem PySem.Spec PyProof.Rows L2
theorem asBls_eq : ∀ {ts : List T} {bs : List Bool}, asBls ts = some bs → ts = bs.map T.bl
 | [], bs, h => by cases h; rfl
 | t :: ts, bs, h => by
  cases t with
  | bl b =>
   obtain ⟨cs, h1, rfl⟩ := Option.map_eq_some_iff.mp (show (asBls ts).map (fun bs => b :: bs) = some bs from h)
   rw [asBls_eq h1]; rfl
  | _ => cases h
theorem asInts_eq : ∀ {ts : List T} {bs : List Int}, asInts ts = some bs → ts = bs.map T.int
 | [], bs, h => by cases h; rfl
 | t :: ts, bs, h => by
  cases t with
  | int b =>
   obtain ⟨cs, h1, rfl⟩ := Option.map_eq_some_iff.mp (show (asInts ts).map (fun bs => b :: bs) = some bs from h)
   rw [asInts_eq h1]; rfl
  | _ => cases h
theorem RepL.bls {K : PySem.W.Frag} {F : Hp} : ∀ {bs : List Bool} {vs : List V}, RepL K F (bs.map T.bl) vs → vs = bs.map V.bl
 | [], vs, h => by rw [List.map_nil, RepL] at h; exact h
 | b :: bs, vs, h => by
  rw [List.map_cons, RepL] at h
  obtain ⟨v, vs', rfl, q, r⟩ := h
  rw [r.bls, q.of_bl]; rfl
theorem RepL.ints' {K : PySem.W.Frag} {F : Hp} : ∀ {bs : List Int} {vs : List V}, RepL K F (bs.map T.int) vs → vs = bs.map V.int
 | [], vs, h => by rw [List.map_nil, RepL] at h; exact h
 | b :: bs, vs, h => by
  rw [List.map_cons, RepL] at h
  obtain ⟨v, vs', rfl, q, r⟩ := h
  rw [r.ints', q.of_int]; rfl
theorem vals_bls : ∀ {bs : List Bool} {us : List Value}, Vals (bs.map V.bl) us → us = bs.map Value.bool
 | [], us, h => by cases h; rfl
 | b :: bs, us, h => by
  rw [List.map_cons] at h
  cases h with
  | cons r h => rw [vals_bls h, show _ = Value.bool b from r]; rfl
section
variable {X : Cx} {a b c : Expr} {da db dc : D} {pos p p2 : Pos} {k : Nat}
theorem iter_list {prog : Program} {w : World} {A : Around} {E : Value → Shared → Prop} {s : Shared} {l : Addr} {its : Array Value} {Q : Value → Shared → Prop} (hl : s.heap.IsList l its)
  (h : ∀ s₂ : Shared, s₂ = { s with heap := s.heap.push { cls := .type "list_iterator", data := .fields #[.ref l, .int 0 0] } } → (s₂.heap.IsListIter s.heap.objs.size l 0 ∧ s₂.heap.IsList l its) → l ≠ s.heap.objs.size → Q (.ref s.heap.objs.size) s₂) :
  wpAny (model prog w) A (pyIter (.ref l)) Q E s := by
 have hlt : l < s.heap.objs.size := by obtain ⟨_, e, _⟩ := hl; exact Heap.lt_size e
 exact wpAny_pyIter_list hl (h _ rfl ⟨⟨_, Heap.get?_push_size _ rfl, rfl, rfl⟩, hl.push _⟩ (Nat.ne_of_lt hlt))
theorem range_all (bs : List Bool) : (List.range bs.length).all (fun i => bs.getD i true) = bs.all id := by
 rw [Bool.eq_iff_iff, List.all_eq_true, List.all_eq_true]
 constructor
 ·intro h x hx
  obtain ⟨i, hi⟩ := List.mem_iff_getElem?.mp hx
  have hl : i < bs.length := (List.getElem?_eq_some_iff.mp hi).1
  have := h i (List.mem_range.mpr hl)
  rw [List.getD_eq_getElem?_getD, hi] at this
  exact this
 ·intro h i hi
  have hl : i < bs.length := List.mem_range.mp hi
  rw [List.getD_eq_getElem?_getD, List.getElem?_eq_getElem hl]
  exact h _ (List.getElem_mem hl)
theorem range_any (bs : List Bool) : (List.range bs.length).any (fun i => bs.getD i true) = bs.any id := by
 rw [Bool.eq_iff_iff, List.any_eq_true, List.any_eq_true]
 constructor
 ·rintro ⟨i, hi, h⟩
  have hl : i < bs.length := List.mem_range.mp hi
  rw [List.getD_eq_getElem?_getD, List.getElem?_eq_getElem hl] at h
  exact ⟨_, List.getElem_mem hl, h⟩
 ·rintro ⟨x, hx, h⟩
  obtain ⟨i, hi⟩ := List.mem_iff_getElem?.mp hx
  have hl : i < bs.length := (List.getElem?_eq_some_iff.mp hi).1
  refine ⟨i, List.mem_range.mpr hl, ?_⟩
  rw [List.getD_eq_getElem?_getD, hi]
  exact h
theorem truth_bls {prog : Program} {w : World} {A : Around} (bs : List Bool) : TruthOf prog w A (fun i v => ((bs.map Value.bool).toArray)[i]? = some v) (fun i => bs.getD i true) := by
 intro i v s Q E hP hQ
 have hP : (bs.map Value.bool)[i]? = some v := by simpa using hP
 rw [List.getElem?_map] at hP
 cases q : bs[i]? with
 | none => rw [q] at hP; cases hP
 | some y =>
  rw [q] at hP
  cases hP
  have hQ : Q (bs.getD i true) s := hQ
  rw [List.getD_eq_getElem?_getD, q] at hQ
  exact wpAny_truthy_bool hQ
theorem call_allB (hr : Room k X.A) : CallR X (.builtin "all") (fun xs H Q => ∃ (p : Addr) (bs : List Bool), xs = [.ref p] ∧ SqL X.K H p (bs.map V.bl) ∧ Q (.bl (bs.all id)) H) := by
 intro pins s σ H xs us Q I r h
 obtain ⟨p, bs, rfl, hq, q⟩ := h
 obtain ⟨u, rfl, ru⟩ := vals1 r
 cases ru
 obtain ⟨its, rv, pl, hz⟩ := I.list hq
 cases vals_bls rv
 refine call_all_walk (iter_list pl.isList fun s₂ e st hne => ?_)
 subst e
 refine ⟨_, _, _, _, _, _, _, rfl, Walks.list (A := X.A.in1) hr.hd _ p hne _, st, truth_bls bs, fun h' tk hk => ?_⟩
 rw [List.size_toArray, List.length_map, range_all]
 exact ⟨.bl _, H, I.kept (t' := tk) (old_kept hk), rfl, q⟩
theorem call_anyB (hr : Room k X.A) : CallR X (.builtin "any") (fun xs H Q => ∃ (p : Addr) (bs : List Bool), xs = [.ref p] ∧ SqL X.K H p (bs.map V.bl) ∧ Q (.bl (bs.any id)) H) := by
 intro pins s σ H xs us Q I r h
 obtain ⟨p, bs, rfl, hq, q⟩ := h
 obtain ⟨u, rfl, ru⟩ := vals1 r
 cases ru
 obtain ⟨its, rv, pl, hz⟩ := I.list hq
 cases vals_bls rv
 refine call_any_walk (iter_list pl.isList fun s₂ e st hne => ?_)
 subst e
 refine ⟨_, _, _, _, _, _, _, rfl, Walks.list (A := X.A.in1) hr.hd _ p hne _, st, truth_bls bs, fun h' tk hk => ?_⟩
 rw [List.size_toArray, List.length_map, range_any]
 exact ⟨.bl _, H, I.kept (t' := tk) (old_kept hk), rfl, q⟩
theorem call_sumI (hr : Room k X.A) : CallR X (.builtin "sum") (fun xs H Q => ∃ (p : Addr) (ns : List Int), xs = [.ref p] ∧ SqL X.K H p (ns.map V.int) ∧ Q (.int ns.sum) H) := by
 intro pins s σ H xs us Q I r h
 obtain ⟨p, ns, rfl, hq, q⟩ := h
 obtain ⟨u, rfl, ru⟩ := vals1 r
 cases ru
 obtain ⟨its, rv, pl, hz⟩ := I.list hq
 have hi : IntsAre its ns := intsAre_of rv
 have hall : AllInts its.toArray := hi.allInts
 obtain ⟨xs, hxs⟩ := hall.items
 rw [hxs] at pl
 refine sum_intListG hr.hd pl.isList fun h' tk t' hk => ⟨.int ns.sum, H, I.kept (t' := tk) hk, ⟨t', ?_⟩, q⟩
 rw [preSum_eq, List.take_of_length_le (by simp)]
 have e1 := hi.numsOf
 have e2 : its = (intItems xs).toList := by rw [← hxs]
 rw [e2, nums_intItems] at e1
 rw [e1]
theorem ce_all (hr : Room k X.A) (hm : X.mg "all" = none) (ha : CE X a da) (hg : Gl X "all" := by rfl) (hs1 : starEach [a] X.env = (false, eval a X.env) :: starEach [] X.env := by rfl) (hpl : (backTo pos (starEach [] X.env)).any (·.1) = false := by rfl) :
  CE X (.Call (.Name "all" p) [a] [] pos) (dUn fAll da) := ce_blt1 (call_allB hr) (by
 intro F H v t w Q s hv hw q
 cases t with
 | lst ts =>
  obtain ⟨bs, h1, rfl⟩ := Option.map_eq_some_iff.mp (show (asBls ts).map _ = some w from hw)
  obtain ⟨a, vs, rfl, hq, hl⟩ := hv.lst_
  rw [asBls_eq h1] at hl
  rw [hl.bls] at hq
  exact ⟨a, bs, rfl, hq, q _ H F Grow.refl (Rep.bl' _)⟩
 | _ => cases hw) hm (by decide +kernel) ha hg (by decide) (by decide) hs1 hpl
theorem ce_any (hr : Room k X.A) (hm : X.mg "any" = none) (ha : CE X a da) (hg : Gl X "any" := by rfl) (hs1 : starEach [a] X.env = (false, eval a X.env) :: starEach [] X.env := by rfl) (hpl : (backTo pos (starEach [] X.env)).any (·.1) = false := by rfl) :
  CE X (.Call (.Name "any" p) [a] [] pos) (dUn fAny da) := ce_blt1 (call_anyB hr) (by
 intro F H v t w Q s hv hw q
 cases t with
 | lst ts =>
  obtain ⟨bs, h1, rfl⟩ := Option.map_eq_some_iff.mp (show (asBls ts).map _ = some w from hw)
  obtain ⟨a, vs, rfl, hq, hl⟩ := hv.lst_
  rw [asBls_eq h1] at hl
  rw [hl.bls] at hq
  exact ⟨a, bs, rfl, hq, q _ H F Grow.refl (Rep.bl' _)⟩
 | _ => cases hw) hm (by decide +kernel) ha hg (by decide) (by decide) hs1 hpl
theorem ce_sum (hr : Room k X.A) (hm : X.mg "sum" = none) (ha : CE X a da) (hg : Gl X "sum" := by rfl) (hs1 : starEach [a] X.env = (false, eval a X.env) :: starEach [] X.env := by rfl) (hpl : (backTo pos (starEach [] X.env)).any (·.1) = false := by rfl) :
  CE X (.Call (.Name "sum" p) [a] [] pos) (dUn fSum da) := ce_blt1 (call_sumI hr) (by
 intro F H v t w Q s hv hw q
 cases t with
 | lst ts =>
  obtain ⟨bs, h1, rfl⟩ := Option.map_eq_some_iff.mp (show (asInts ts).map _ = some w from hw)
  obtain ⟨a, vs, rfl, hq, hl⟩ := hv.lst_
  rw [asInts_eq h1] at hl
  rw [hl.ints'] at hq
  exact ⟨a, bs, rfl, hq, q _ H F Grow.refl (Rep.int' _)⟩
 | _ => cases hw) hm (by decide +kernel) ha hg (by decide) (by decide) hs1 hpl
theorem ce_tuple (hm : X.mg "tuple" = none) (ha : CE X a da) (hg : Gl X "tuple" := by rfl) (hs1 : starEach [a] X.env = (false, eval a X.env) :: starEach [] X.env := by rfl) (hpl : (backTo pos (starEach [] X.env)).any (·.1) = false := by rfl) :
  CE X (.Call (.Name "tuple" p) [a] [] pos) (dUn fTuple da) := ce_ty1 call_tuple_of (by
 intro F H v t w Q s hv hw q
 cases t with
 | lst ts =>
  cases hw
  obtain ⟨a, vs, rfl, hq, hl⟩ := hv.lst_
  exact ⟨a, vs, rfl, .inl ⟨hq, fun l hp => new_tup s hp hl q⟩⟩
 | tup ts =>
  cases hw
  obtain ⟨a, vs, rfl, hq, hl⟩ := hv.tup_
  exact ⟨a, vs, rfl, .inr ⟨Same.seqT s hq, q _ H F Grow.refl (rep_tup hq hl)⟩⟩
 | _ => cases hw) hm (by decide +kernel) ha hg (by decide) (by decide) hs1 hpl
theorem cf_list (hm : X.mg "list" = none) (ha : CE X a da) (hg : Gl X "list" := by rfl) (hs1 : starEach [a] X.env = (false, eval a X.env) :: starEach [] X.env := by rfl) (hpl : (backTo pos (starEach [] X.env)).any (·.1) = false := by rfl) :
  CF X (.Call (.Name "list" p) [a] [] pos) (dUn fList da) := cf_ty1 call_list_of (by
 intro F H v t w Q s hv hw q
 cases t with
 | lst ts =>
  cases hw
  obtain ⟨a, vs, rfl, hq, hl⟩ := hv.lst_
  exact ⟨a, vs, rfl, .inl hq, fun l hp => q l _ hp ⟨vs, upd_same, hl⟩⟩
 | tup ts =>
  cases hw
  obtain ⟨a, vs, rfl, hq, hl⟩ := hv.tup_
  exact ⟨a, vs, rfl, .inr (Same.seqT s hq), fun l hp => q l _ hp ⟨vs, upd_same, hl⟩⟩
 | _ => cases hw) hm (by decide +kernel) ha hg (by decide) (by decide) hs1 hpl
theorem cf_rep {es : List Expr} {ds : List D} (h : CA X es ds) (hb : CE X b db) (hl : ds.length ≤ 1000 := by decide) : CF X (.BinOp (.List es p) .Mult b pos) (dRep fRep ds db) := by
 refine ⟨PE.imp (pe_op op_rep (pe_lst h) hb) fun σ H Q ⟨F, α, e, μ, S, h⟩ => ?_, fun e μ x μ' h => ?_⟩
 ·refine ⟨F, α, e, μ, S, (dArgs_wp_len (R.wp_bind h)).mono (fun xs μ1 ⟨hn, h⟩ vs H1 F1 α1 x1 S1 o1 => ?_) fun _ _ h => h⟩
  have h := R.wp_bind h
  cases hz : frzs xs μ1 with
  | err c μ2 => exact absurd hz (frzs_no xs μ1 c μ2)
  | bad => rw [hz] at h; exact h.elim
  | ok ts μ2 =>
   rw [hz] at h
   obtain ⟨F2, s2, n2, S2, r2⟩ := frzs_ok S1.st o1 hz
   refine ⟨small_len hn o1 hl, fun l hp => ?_⟩
   have x2 : Ex F α H F2 α1 (upd H1 l (.lst vs)) := x1.trans ((Ex.of_ne s2 n2).trans (Ex.lay hp))
   refine ⟨F2, α1, e, μ2, S1.of s2 (List.prefix_refl _) (S2.lay hp), (R.wp_bind h).mono (fun y μ3 h v3 H3 F3 α3 x3 S3 o3 => ?_) fun _ _ h => h.mono x2⟩
   obtain ⟨w, h9, t', e1, post⟩ := R.wp_lift h
   obtain ⟨t, w', ht, h, e2⟩ := ap1_eq h9
   subst e1
   cases e2
   cases t with
   | int i =>
    cases (now_of S3.st o3 ht).int
    have h : (if -(2 ^ 63) ≤ i ∧ i < 2 ^ 63 ∧ ts.length * i.toNat ≤ szL then some (T.lst (List.replicate i.toNat ts).flatten) else none) = some t' := h
    by_cases hc : -(2 ^ 63) ≤ i ∧ i < 2 ^ 63 ∧ ts.length * i.toNat ≤ szL
    ·rw [if_pos hc] at h
     cases h
     obtain ⟨g1, g2, g3⟩ := x3.fr l _ upd_same (S2.ext.free hp) (not_mem_of_none S2 hp)
     refine ⟨l, i, vs, rfl, rfl, g1, hc.1, hc.2.1, by rw [← r2.length]; exact hc.2.2, fun p' hp' => ?_⟩
     exact post p' _ F3 α3 ((x2.trans x3).trans (Ex.lay hp')) (S3.of (Same.refl _) (List.prefix_refl _) (S3.st.lay hp')) ((x2.trans x3).was S3.st hp') (S3.st.ext.free hp') (not_mem_of_none S3.st hp')
      ⟨_, upd_same, (RepL.mono x3.same _ _ r2).flat i.toNat⟩
    ·rw [if_neg hc] at h; cases h
   | _ => cases h
 ·unfold dRep at h
  obtain ⟨xs, μ1, hx, h⟩ := R.bind_eq_ok h
  obtain ⟨ts, μ2, hz, h⟩ := R.bind_eq_ok h
  obtain ⟨y, μ3, hy, h⟩ := R.bind_eq_ok h
  obtain ⟨h9, rfl⟩ := R.lift_eq_ok h
  obtain ⟨t, w', ht, h, rfl⟩ := ap1_eq h9
  exact ⟨_, rfl⟩
theorem cs_append {o e1 : Expr} {do_ de : D} {apos cpos : Pos} (ho : CE X o do_) (he : CE X e1 de) (hbase : attributeBase o "append" X.env (eval o X.env) = eval o X.env := by rfl)
  (hfew : ((backTo cpos (starEach [e1] X.env)).all (fun x => !x.1) && (backToKw cpos (keywordEach [] X.env)).all (fun x => x.1.isSome) && decide (([e1] : List Expr).length + ([] : List Keyword).length + (if ([] : List Keyword).isEmpty then 0 else 1) < 30)) = true := by rfl)
  (hline : (apos.endLine == cpos.line) = true := by rfl) (hs1 : starEach [e1] X.env = (false, eval e1 X.env) :: starEach [] X.env := by rfl) (hpl : (backTo cpos (starEach [] X.env)).any (·.1) = false := by rfl)
  (hs : swapsWith (.Call (.Attribute o "append" apos) [e1] [] cpos) none pos.line X.env = pure false := by rfl) :
  CS X (.Expr (.Call (.Attribute o "append" apos) [e1] [] cpos) pos) (sAppend do_ de) :=
 PS.imp (ps_expr (pe_bm PySem.F.plainAttrs_list PySem.F.slot_list_append PySem.F.type_list_append mt_append ho (ca_cons he ca_nil hs1) hbase hfew hline hs1 hpl) hs) fun D σ H hX11_ => by
  obtain ⟨F, α, e, μ, S, h⟩ := hX11_
  refine ⟨F, α, e, μ, S, (PostS.toS h).mono (fun x μ1 h v H1 F1 α1 x1 S1 o1 => ?_) fun _ _ h => h⟩
  obtain ⟨_, hl, h⟩ := h.lift
  cases x with
  | cel j =>
   obtain ⟨ad, ha, rfl⟩ := o1
   have hc : ∃ bb ts, μ1[j]? = some (bb, .lst ts) := by
    unfold lsts at hl
    simp only at hl
    split at hl
    ·exact ⟨_, _, by assumption⟩
    ·cases hl
   obtain ⟨bb, ts, hj⟩ := hc
   have n1 := now_of S1.st (x := .cel j) (t := .lst ts) ⟨ad, ha, rfl⟩ (by rw [rd_cel, hj]; rfl)
   obtain ⟨a', vs, e1, hq, _⟩ := n1.lst_
   cases e1
   refine ⟨.inl ⟨rfl, vs, hq⟩, args1 ⟨F1, α1, e, μ1, S1, (PostS.toS h).mono (fun y μ2 h v2 H2 F2 α2 x2 S2 o2 => ?_) fun _ _ h => h.mono x1⟩⟩
   have h := h.toS
   cases hz : frz y μ2 with
   | err c μ3 => exact absurd hz (frz_no y μ2 c μ3)
   | bad => rw [hz] at h; exact h.elim
   | ok t μ3 =>
    rw [hz] at h
    obtain ⟨μ4, ha4, h⟩ := PostS.lift h
    obtain ⟨F3, s3, n3, S3, r3⟩ := frz_ok S2.st o2 hz
    unfold appendAt at ha4
    simp only at ha4
    have hc : ∃ us, μ3[j]? = some (true, .lst us) ∧ us.length < szL ∧ μ4 = μ3.set j (true, .lst (us ++ [t])) := by
     split at ha4
     ·rename_i us hjs
      by_cases hu : us.length < szL
      ·rw [if_pos hu] at ha4
       cases ha4
       exact ⟨us, hjs, hu, rfl⟩
      ·rw [if_neg hu] at ha4; cases ha4
     ·cases ha4
    obtain ⟨us, hj3, hu, rfl⟩ := hc
    have ha3 : α2[j]? = some ad := pre_get x2.pre ha
    obtain ⟨_, ws, hw, rw'⟩ := (S3.cell j true _ ad hj3 ha3).1 rfl
    have el := rw'.length
    refine ⟨ad, ws, v2, rfl, rfl, hw, by rw [szL_eq] at hu; omega, ?_⟩
    have x3 : Ex F α H F3 α2 H2 := x1.trans (x2.trans (Ex.of_ne s3 n3))
    exact h σ _ F3 α2 (x3.trans (Ex.put ha3)) ((S2.of s3 (List.prefix_refl _) S3).of (Same.refl _) (List.prefix_refl _) (put_ok S3 hj3 ha3 ⟨_, upd_same, rw'.append (RepL.one r3)⟩))
  | val t => cases hl
  | box xs => cases hl
end
end Fw
namespace Fw
open PySem L2 PyProof.Rows
section
variable {X : Cx}
end
end Fw
namespace L2
open PySem PySem.Spec PyProof.Rows
noncomputable def KIt (k : Bool) (h : Heap) (i l : Addr) (n : Nat) : Prop := match k with
 | true => h.IsListIter i l n
 | false => h.IsTupleIter i l n
noncomputable def KSq (k : Bool) (h : Heap) (l : Addr) (xs : Array Value) : Prop := match k with
 | true => h.IsList l xs
 | false => h.IsTuple l xs
theorem KIt.at {k : Bool} {h h' : Heap} {i l : Addr} {n : Nat} (x : KIt k h i l n) (e : ∀ o, h.get? i = some o → h'.get? i = some o) : KIt k h' i l n := by
 cases k with
 | true => exact Heap.IsListIter.at x e
 | false => exact Heap.IsTupleIter.at x e
theorem KSq.at {k : Bool} {h h' : Heap} {l : Addr} {xs : Array Value} (x : KSq k h l xs) (e : ∀ o, h.get? l = some o → h'.get? l = some o) : KSq k h' l xs := by
 cases k with
 | true => exact Heap.IsList.at x e
 | false => exact Heap.IsTuple.at x e
theorem KIt.ob {k : Bool} {h : Heap} {i l : Addr} {n : Nat} (x : KIt k h i l n) : ∃ o, h.get? i = some o ∧ o.data = .fields #[.ref l, .int n 0] := by
 cases k with
 | true => obtain ⟨o, a, _, b⟩ := x; exact ⟨o, a, b⟩
 | false => obtain ⟨o, a, _, b⟩ := x; exact ⟨o, a, b⟩
section
variable {prog : Program} {w : World} {A : Around} {E : Value → Shared → Prop} {s : Shared}
theorem nextT_item {it t : Addr} {i : Nat} {items : Array Value} {x : Value} {Q : Value → Shared → Prop} (hit : s.heap.IsTupleIter it t i) (ht : s.heap.IsTuple t items) (hx : items[i]? = some x)
  (hQ : ∀ h', h'.IsTupleIter it t (i + 1) → Heap.SameBut it s.heap h' → Q x { s with heap := h' }) : wpAny (model prog w) A (Builtin.SmallTypes.nextOf (.ref it)) Q E s := by
 obtain ⟨⟨o, ho, hc, hd⟩, ⟨ol, hol, _, nl, hdl⟩⟩ := And.intro (id hit) ht
 unfold Builtin.SmallTypes.nextOf
 refine wpAny_bind (wpAny_callSpecial?_slot (name := Str.ofString "__next__") hit.typeIs F.slot_tuple_iterator_next (wpAny_call_entry F.slot_tuple_iterator_next hit.typeIs F.entry_tuple_iterator_next ?_ (F.args_tuple_iterator_next_1 _)))
 show wpAny _ _ (field (.ref it) 0 >>= _) _ _ s; refine wpAny_bind (wpAny_field ho hd (x := .ref t) rfl ?_)
 show wpAny _ _ (if (Value.ref t == Value.none) = true then _ else _) _ _ s; rw [if_neg (show ¬ ((Value.ref t == Value.none) = true) from Bool.false_ne_true)]
 show wpAny _ _ (field (.ref it) 1 >>= _) _ _ s; refine wpAny_bind (wpAny_field ho hd (x := .int i 0) rfl ?_)
 show wpAny _ _ (seqItems? (.ref t) >>= _) _ _ s; refine wpAny_bind (wpAny_seqItems hol hdl ?_)
 simp only [Int.toNat_natCast, hx]; refine wpAny_bind (wpAny_setField ho hd (by simp) (wpAny_pure ⟨x, rfl, wpAny_pure (hQ _ ?_ (Heap.SameBut.update ..))⟩))
 exact ⟨_, Heap.get?_update_self _ ho (Obj.isFreed_of_fields (Obj.data_mapFields hd _)), (Obj.cls_mapFields ..).trans hc, by rw [Obj.data_mapFields hd]; simp [rawInt]⟩
theorem nextT_end {it t : Addr} {i : Nat} {items : Array Value} {Q : Value → Shared → Prop} (hh : A.handled = none) (hit : s.heap.IsTupleIter it t i) (ht : s.heap.IsTuple t items) (hx : items[i]? = none)
  (hE : ∀ h' e, Heap.ExtBut it s.heap h' → (∃ o, h'.get? e = some o ∧ o.cls = .type "StopIteration") → E (.ref e) { s with heap := h' }) : wpAny (model prog w) A (Builtin.SmallTypes.nextOf (.ref it)) Q E s := by
 obtain ⟨⟨o, ho, hc, hd⟩, ⟨ol, hol, _, nl, hdl⟩⟩ := And.intro (id hit) ht
 unfold Builtin.SmallTypes.nextOf
 refine wpAny_bind (wpAny_callSpecial?_slot (name := Str.ofString "__next__") hit.typeIs F.slot_tuple_iterator_next (wpAny_call_entry F.slot_tuple_iterator_next hit.typeIs F.entry_tuple_iterator_next ?_ (F.args_tuple_iterator_next_1 _)))
 show wpAny _ _ (field (.ref it) 0 >>= _) _ _ s; refine wpAny_bind (wpAny_field ho hd (x := .ref t) rfl ?_)
 show wpAny _ _ (if (Value.ref t == Value.none) = true then _ else _) _ _ s; rw [if_neg (show ¬ ((Value.ref t == Value.none) = true) from Bool.false_ne_true)]
 show wpAny _ _ (field (.ref it) 1 >>= _) _ _ s; refine wpAny_bind (wpAny_field ho hd (x := .int i 0) rfl ?_)
 show wpAny _ _ (seqItems? (.ref t) >>= _) _ _ s; refine wpAny_bind (wpAny_seqItems hol hdl ?_)
 simp only [Int.toNat_natCast, hx]; refine wpAny_bind (wpAny_rule (wpAny_bind (wpAny_setField ho hd (by simp) ?_)))
 show wpAny _ _ (newExc (.type "StopIteration") [] >>= _) _ _ _; refine wpAny_bind ?_
 simp only [newExc, newTuple]; refine wpAny_bind (wpAny_newObj_type ?_ (by size_fits))
 refine wpAny_bind (m := firstArgMember _ _) (wpAny_of_eq (a := Value.none) (by first | rfl | (simp only [firstArgMember]; rfl)) ?_); refine wpAny_newObj_type ?_ (by size_fits)
 simp only [raiseNew]; refine wpAny_bind (wpAny_handled ?_); first | rw [show A.in1.handled = none from hh] | rw [hh]
 refine wpAny_bind (wpAny_pure (wpAny_throw ?_)); exact hE _ _ (((Heap.SameBut.update ..).extBut.push _).push _) ⟨_, Heap.get?_push_size _ rfl, rfl⟩
theorem nextK_item {k : Bool} {it t : Addr} {i : Nat} {items : Array Value} {x : Value} {Q : Value → Shared → Prop} (hit : KIt k s.heap it t i) (ht : KSq k s.heap t items) (hx : items[i]? = some x)
  (hQ : ∀ h', KIt k h' it t (i + 1) → Heap.SameBut it s.heap h' → Q x { s with heap := h' }) : wpAny (model prog w) A (Builtin.SmallTypes.nextOf (.ref it)) Q E s := by
 cases k with
 | true => exact wpAny_nextOf_list_item hit ht hx hQ
 | false => exact nextT_item hit ht hx hQ
theorem nextK_end {k : Bool} {it t : Addr} {i : Nat} {items : Array Value} {Q : Value → Shared → Prop} (hh : A.handled = none) (hit : KIt k s.heap it t i) (ht : KSq k s.heap t items) (hx : items[i]? = none)
  (hE : ∀ h' e, Heap.ExtBut it s.heap h' → (∃ o, h'.get? e = some o ∧ o.cls = .type "StopIteration") → E (.ref e) { s with heap := h' }) : wpAny (model prog w) A (Builtin.SmallTypes.nextOf (.ref it)) Q E s := by
 cases k with
 | true => exact wpAny_nextOf_list_end hh hit ht hx hE
 | false => exact nextT_end hh hit ht hx hE
end
noncomputable def itRec (k : Bool) (l : Addr) : Obj := { cls := .type (if k then "list_iterator" else "tuple_iterator"), data := .fields #[.ref l, .int 0 0] }
theorem KIt.new {k : Bool} {h : Heap} {i l : Addr} (e : h.get? i = some (itRec k l)) : KIt k h i l 0 := by
 cases k with
 | true => exact ⟨_, e, rfl, rfl⟩
 | false => exact ⟨_, e, rfl, rfl⟩
section
variable {prog : Program} {w : World} {A : Around} {E : Value → Shared → Prop} {s : Shared}
end
end L2
namespace L2
open PySem PySem.Spec PyProof.Rows
noncomputable def KSqV (K : PySem.W.Frag) (k : Bool) (H : Hp) (a : Addr) (xs : List V) : Prop := match k with
 | true => SqL K H a xs
 | false => SqT K H a xs
theorem Inv.ksq {X : Cx} {pins : List (Addr × Obj)} {σ : L2.St} {H : Hp} {s : Shared} {k : Bool} {a : Addr} {xs : List V} (I : Inv X pins σ H s) (h : KSqV X.K k H a xs) : ∃ its : List Value, Vals xs its ∧ KSq k s.heap a its.toArray ∧ xs.length ≤ sizeLine := by
 cases k with
 | true => obtain ⟨its, r, p, z⟩ := I.list h; exact ⟨its, r, p.isList, z⟩
 | false => obtain ⟨its, r, p, z⟩ := I.tuple h; exact ⟨its, r, p, z⟩
theorem Inv.ksq_inj {X : Cx} {pins : List (Addr × Obj)} {σ : L2.St} {H : Hp} {s : Shared} {k : Bool} {a : Addr} {xs ys : List V} (I : Inv X pins σ H s) (h : KSqV X.K k H a xs) (h' : KSqV X.K k H a ys) : xs = ys := by
 cases k with
 | true => exact I.list_inj h h'
 | false => exact I.tuple_inj h h'
theorem ksqv_own {X : Cx} {pins : List (Addr × Obj)} {σ : L2.St} {H : Hp} {s : Shared} {k : Bool} {a c : Addr} {xs : List V} (I : Inv X pins σ H s) (h : KSqV X.K k H a xs) (hf : FpOk X pins H c) : a ≠ c := fun e => by
 subst e
 have key : ∀ o, X.K.lookup a = some o → False := fun o hk => by
  have hb := I.ok.mod.kin a o hk
  rcases hf.2.2.2.1 with z | z
  ·exact I.ok.noex a o hb z
  ·exact absurd (Nat.lt_of_lt_of_le (Heap.lt_size hb) (Nat.le_trans I.ok.bsz z)) (Nat.lt_irrefl _)
 cases k with
 | true =>
  rcases h with (h | ⟨o, h⟩) | ⟨o, its, n, hk, _⟩
  ·rw [hf.1] at h; cases h
  ·rw [hf.1] at h; cases h
  ·exact key o hk
 | false =>
  rcases h with (h | ⟨o, h⟩) | ⟨o, its, n, hk, _⟩
  ·rw [hf.1] at h; cases h
  ·rw [hf.1] at h; cases h
  ·exact key o hk
section
variable {X : Cx} {pins : List (Addr × Obj)} {σ : L2.St} {H : Hp} {s : Shared} {h' : Heap} {ch : List Addr}
theorem stay_of {b : Addr} {u o : HO} {H' : Hp} {tr : Addr} (I : Inv X pins σ H s) (k : ∀ b o, b ∉ ch → s.heap.get? b = some o → h'.get? b = some o) (hf : ∀ b ∈ ch, FpOk X pins H b) (e : H b = some u)
  (ho : ∀ c, H c = some (.own b) → H' c = some (.own b)) (ht : ∀ c xs, H c = some (.tup xs) → H' c = some (.tup xs)) : ObjOk X.prog X.w H' h' b u := by
 refine (I.hok b u e).stay (fun c v hc q => k c v (fun z => ?_) q) ho ht
 have hn := (hf c z).1
 rcases hc with rfl | hc
 ·rw [hn] at e; cases e
 ·rw [hn] at hc; cases hc
theorem Inv.turnedN {t' : Nat} (I : Inv X pins σ H s) (k : ∀ b o, b ∉ ch → s.heap.get? b = some o → h'.get? b = some o) (hf : ∀ b ∈ ch, FpOk X pins H b) : Inv X pins σ H { s with heap := h', toks := t' } := by
 refine I.step (g' := s.gens) (d' := s.drawn) (ch := ch) (fun b hb => ⟨(hf b hb).2.2.2.1, (hf b hb).2.1, (hf b hb).2.2.2.2.1, (hf b hb).2.2.2.2.2⟩) (fun b o _ _ hc e _ => k b o hc e) (fun b o _ _ hc e _ => ⟨o.slots, k b o hc e⟩) (fun _ _ _ _ n => n)
  (fun b o hc e => ⟨o, k b o hc e⟩) (fun _ _ e => e) (fun _ _ _ e => e) (fun b ps e => ⟨#[], by rw [e]; simp⟩) (fun m hm => ?_) (fun b u e => stay_of (o := u) (tr := b) I k hf e (fun _ q => q) fun _ _ q => q) I.bare
 obtain ⟨o, es, ep, ho, r⟩ := hm
 exact ⟨o, es, ep, k _ o (fun z => (hf _ z).2.1 rfl) ho, r⟩
theorem Inv.turnedL {o : HO} (I : Inv X pins σ H s) (k : ∀ b o, b ∉ ch → s.heap.get? b = some o → h'.get? b = some o) (hf : ∀ b ∈ ch, FpOk X pins H b) (new : ObjOk X.prog X.w (upd H s.heap.objs.size o) h' s.heap.objs.size o) :
  Inv X pins σ (upd H s.heap.objs.size o) { s with heap := h' } := by
 have hn : H s.heap.objs.size = none := I.hok.fresh (Nat.le_refl _)
 have ne : ∀ {b : Addr} {ob : Obj}, s.heap.get? b = some ob → b ≠ s.heap.objs.size := fun e => Nat.ne_of_lt (Heap.lt_size e)
 refine I.step (g' := s.gens) (d' := s.drawn) (t' := s.toks) (ch := ch) (fun b hb => ⟨(hf b hb).2.2.2.1, (hf b hb).2.1, (hf b hb).2.2.2.2.1, (hf b hb).2.2.2.2.2⟩) (fun b o _ _ hc e _ => k b o hc e) (fun b o _ _ hc e _ => ⟨o.slots, k b o hc e⟩) (fun b ob _ e n => by rw [upd_ne (ne e)]; exact n)
  (fun b o hc e => ⟨o, k b o hc e⟩) (fun b xs q => by rw [upd_ne (ne_of_none q hn)]; exact q) (fun b u xs q => by rw [upd_ne (ne_of_none q hn)]; exact q) (fun b ps q => ⟨#[], by rw [upd_ne (ne_of_none q hn), q]; simp⟩) (fun m hm => ?_) (fun b u e => ?_) I.bare
 ·obtain ⟨o, es, ep, ho, r⟩ := hm
  exact ⟨o, es, ep, k _ o (fun z => (hf _ z).2.1 rfl) ho, r⟩
 ·by_cases hb : b = s.heap.objs.size
  ·subst hb; rw [upd_same] at e; cases e; exact new
  ·rw [upd_ne hb] at e
   exact stay_of (o := u) (tr := b) I k hf e (fun c q => by rw [upd_ne (ne_of_none q hn)]; exact q) fun c xs q => by rw [upd_ne (ne_of_none q hn)]; exact q
end
end L2
namespace Fw
open PySem PySem.Spec PyProof.Rows L2
noncomputable def tDO (X : Cx) (o : Option D) : TO := fun σ H Q => ∃ F α e μ, Sim X.K F α e μ σ H ∧ (dOpt o e μ).wp (fun i μ' => ∀ H' F' α', Ex F α H F' α' H' → Sim X.K F' α' e μ' σ H' → Q i H') (XPost X F α H e)
noncomputable def CO (X : Cx) (e : Option Expr) (o : Option D) : Prop := PO X e (tDO X o)
section
variable {X : Cx} {a b : Expr} {da db : D} {pos p2 : Pos}
end
end Fw
namespace Fw
open PySem PySem.Spec PyProof.Rows L2
section
variable {X : Cx} {a b c : Expr} {da db dc : D} {pos p p2 : Pos}
theorem cs_setItem (i : Nat) {y : Str} {py tpos : Pos} {ik ev : Expr} {dk dv : D} (hk : CE X ik dk) (hv : CE X ev dv) (hN : X.N[i]? = some y := by rfl)
  (hvs : Vis X.env.scope y := by first | exact Or.inl rfl | exact Or.inr (Or.inl rfl) | exact Or.inr (Or.inr rfl)) (hd : (y == ("__debug__" : Str)) = false := by decide) (hcd : (y == ("__classdict__" : Str)) = false := by decide)
  (ha : ∀ v, assign (.Subscript (.Name y py) ik tpos) X.env v = (do
   let ov ← holding [v] (eval (.Name y py) X.env)
   let iv ← holding [v, ov] (eval ik X.env)
   standAt tpos
   holding [v, ov, iv] (setItem ov iv v)
   release [v, ov, iv] []) := by intro _; rfl)
  (hs : swapsWithSole [.Subscript (.Name y py) ik tpos] ev pos.line X.env = pure false := by rfl) (hw : swappedStores [.Subscript (.Name y py) ik tpos] ev X.env = pure none := by rfl)
  (h1 : (assignEach [.Subscript (.Name y py) ik tpos] X.env).map (·.2) = [assign (.Subscript (.Name y py) ik tpos) X.env] := by rfl) :
  CS X (.Assign [.Subscript (.Name y py) ik tpos] ev pos) (sSetItem i dk dv) :=
 PS.imp (ps_asg hv (pg_sub (pe_var hN hvs hd hcd) hk set_list ha) hs hw h1) fun D σ H hX11_ => by
  obtain ⟨F, α, e, μ, S, h⟩ := hX11_
  refine ⟨F, α, e, μ, S, (PostS.toS h).mono (fun y μ1 h v H1 F1 α1 x1 S1 o1 => ?_) fun _ _ h => h⟩
  obtain ⟨x, hx, h⟩ := PostS.lift h
  obtain ⟨ov, hov, oo⟩ := S1.sl i x hx
  refine ⟨ov, hov, F1, α1, e, μ1, S1, (PostS.toS h).mono (fun z μ2 h v2 H2 F2 α2 x2 S2 o2 => ?_) fun _ _ h => h.mono x1⟩
  obtain ⟨k, hk, h⟩ := PostS.lift h
  have h := h.toS
  have nk := now_of S2.st o2 hk
  cases hz : frz y μ2 with
  | err c μ3 => exact absurd hz (frz_no y μ2 c μ3)
  | bad => rw [hz] at h; exact h.elim
  | ok t μ3 =>
   rw [hz] at h
   obtain ⟨μ4, ha4, h⟩ := PostS.lift h
   obtain ⟨F3, s3, n3, S3, r3⟩ := frz_ok S2.st (o1.mono x2.same x2.pre) hz
   cases x with
   | cel j =>
    obtain ⟨ad, had, rfl⟩ := oo
    cases k with
    | int ki =>
     cases nk.int
     unfold setAt at ha4
     simp only at ha4
     have hc : ∃ us jj, μ3[j]? = some (true, .lst us) ∧ Fw.ixN us.length ki = some jj ∧ μ4 = μ3.set j (true, .lst (us.set jj t)) := by
      split at ha4
      ·rename_i us hjs
       obtain ⟨jj, e1, e2⟩ := Option.map_eq_some_iff.mp ha4
       exact ⟨us, jj, hjs, e1, e2.symm⟩
      ·cases ha4
     obtain ⟨us, jj, hj3, hjj, rfl⟩ := hc
     have ha3 : α2[j]? = some ad := pre_get x2.pre had
     obtain ⟨_, ws, hw, rw'⟩ := (S3.cell j true _ ad hj3 ha3).1 rfl
     have el := rw'.length
     refine ⟨ad, ws, ki, jj, rfl, rfl, hw, by rw [← el]; exact hjj, ?_⟩
     have x3 : Ex F α H F3 α2 H2 := x1.trans (x2.trans (Ex.of_ne s3 n3))
     exact h σ _ F3 α2 (x3.trans (Ex.put ha3)) ((S2.of s3 (List.prefix_refl _) S3).of (Same.refl _) (List.prefix_refl _) (put_ok S3 hj3 ha3 ⟨_, upd_same, rw'.set jj r3⟩))
    | _ => unfold setAt at ha4; cases ha4
   | val t => cases k <;> (unfold setAt at ha4; cases ha4)
   | box xs => cases k <;> (unfold setAt at ha4; cases ha4)
theorem chain_read {r r' : R2} {f g : T → T → Option T} (hs : OpSem X.K r f) (hs' : OpSem X.K r' g) (hf : ∀ t u w, f t u = some w → ∃ k, w = .bl k) (σ : L2.St) (H : Hp) (Q : VK) (h : tD X (dChain f g da db dc) σ H Q) : tChain r r' (tD X da) (tD X db) (tD X dc) σ H Q := by
 obtain ⟨F, α, e, μ, S, h⟩ := h
 refine ⟨F, α, e, μ, S, ?_⟩
 refine (R.wp_bind h).mono (fun x μ1 h v H1 F1 α1 x1 S1 o1 => ⟨F1, α1, e, μ1, S1, ?_⟩) fun _ _ h => h
 refine (R.wp_bind h).mono (fun y μ2 h v2 H2 F2 α2 x2 S2 o2 => ?_) fun _ _ h => h.mono x1
 obtain ⟨w, h9, h⟩ := R.wp_lift (R.wp_bind h)
 obtain ⟨t, u, w', ht, hu, hfw, rfl⟩ := ap2_eq h9
 obtain ⟨k, rfl⟩ := hf t u w' hfw
 obtain ⟨k', e1, h⟩ := R.wp_lift (R.wp_bind h)
 cases e1
 refine hs F2 H2 v v2 t u _ _ S2.st.ext (now_of S2.st (o1.mono x2.same x2.pre) ht) (now_of S2.st o2 hu) hfw fun v' H' F' g1 rp => ?_
 have ev : v' = .bl k := Rep.of_bl rp
 subst ev
 have x3 : Ex F α H F' α2 H' := x1.trans (x2.trans (g1.ex S2.st.ext))
 have S3 := S2.grow g1
 refine ⟨k, rfl, ?_⟩
 cases k with
 | false =>
  rw [if_neg (by decide)] at h ⊢
  exact h _ H' F' α2 x3 S3 (Rep.bl' (K := X.K) (F := F') false)
 | true =>
  rw [if_pos rfl] at h ⊢
  refine ⟨F', α2, e, μ2, S3, (R.wp_bind h).mono (fun z μ3 h v3 H3 F3 α3 x4 S4 o4 => ?_) fun _ _ h => h.mono x3⟩
  obtain ⟨w, h9, post⟩ := R.wp_lift h
  obtain ⟨t2, u2, w2, ht2, hu2, hgw, rfl⟩ := ap2_eq h9
  exact hs' F3 H3 v2 v3 t2 u2 w2 Q S4.st.ext (now_of S4.st ((o2.mono (g1.same S2.st.ext) (List.prefix_refl _)).mono x4.same x4.pre) ht2) (now_of S4.st o4 hu2) hgw fun v' H' F' g rp =>
   post v' H' F' α3 (x3.trans (x4.trans (g.ex S4.st.ext))) (S4.grow g) rp
theorem fLe_bl (t u w : T) (h : fLe t u = some w) : ∃ k, w = .bl k := by
 cases t <;> cases u <;> first | (cases h; exact ⟨_, rfl⟩) | cases h
theorem ce_chain_le_le (ha : CE X a da) (hb : CE X b db) (hc : CE X c dc) (hm : lastMarks [.LtE, .LtE] [b, c] = false := by with_unfolding_all rfl) : CE X (.Compare a [.LtE, .LtE] [b, c] pos) (dChain fLe fLe da db dc) :=
 PE.imp (pe_chain op_le op_le ha hb hc hm) (chain_read sem_le sem_le fLe_bl)
theorem now_non {K : PySem.W.Frag} {F H : Hp} {v : V} {t : T} (h : Now K F H v t) : decide (v = .non) = (match t with | .non => true | _ => false) := by
 cases t with
 | non => have e : v = .non := Rep.of_non (K := K) (F := F) h; subst e; rfl
 | bl b => have e := h.bl; subst e; rfl
 | int b => have e := h.int; subst e; rfl
 | str b => have e := h.str; subst e; rfl
 | lst ts => obtain ⟨a, vs, rfl, _⟩ := h.lst_; rfl
 | tup ts => obtain ⟨a, vs, rfl, _⟩ := h.tup_; rfl
 | dct ts => obtain ⟨a, vs, rfl, _⟩ := h; rfl
 | exc c n => have h : Rep K F (.exc c n) v := h; rw [Rep] at h; obtain ⟨a, rfl, _⟩ := h; rfl
noncomputable def fIsN : T → T → Option T := fun t u => match u with
 | .non => isNon t
 | _ => none
theorem sem_isN {K : PySem.W.Frag} : OpSem K (fun x y H Q => y = .non ∧ Q (.bl (decide (x = .non))) H) fIsN := by
 intro F H v u t t' w Q s hv hu hw q
 cases t' with
 | non =>
  refine ⟨Rep.of_non (K := K) (F := F) hu, ?_⟩
  rw [now_non hv]
  refine q _ H F Grow.refl ?_
  cases t <;> (cases hw; exact Rep.bl' _)
 | _ => cases hw
theorem dUn_isN : dBin fIsN da (dC .non) = dUn isNon da := by
 funext e μ
 rw [dBin_is, dUn_is]
 cases da e μ with
 | ok x μ1 => rw [R.bind_ok, R.bind_ok, dC_is, R.bind_ok]; cases rd μ1 x <;> rfl
 | err c μ1 => rfl
 | bad => rfl
theorem ce_isN {j} (ha : CE X a da) : CE X (.Compare a [.Is] [.Constant .none j p] pos) (dUn isNon da) := dUn_isN ▸ ce_cmp op_isN sem_isN (nomark _) ha ce_non
theorem ct_isN {j} (ha : CE X a da) : CT X (.Compare a [.Is] [.Constant .none j p] pos) (dUn isNon da) := dUn_isN ▸ ct_cmp op_isN sem_isN (nomark _) ha ce_non
end
end Fw
namespace Fw
open PySem PySem.Spec PyProof.Rows L2
section
variable {K : PySem.W.Frag} {F : Hp}
theorem RepD.nil' : RepD K F [] [] := by rw [RepD]
theorem RepD.cons' {k : Key} {t : T} {v : V} {kts : List (Key × T)} {kvs : List (Key × V)} (q : Rep K F t v) (r : RepD K F kts kvs) : RepD K F ((k, t) :: kts) ((k, v) :: kvs) := by rw [RepD]; exact ⟨v, kvs, rfl, q, r⟩
theorem valT_pos {p : Key × T} {r : List (Key × T)} {k : Key} (e : p.1 = k) : valT (p :: r) k = some p.2 := by simp [valT, List.find?_cons, e]
theorem valT_neg {p : Key × T} {r : List (Key × T)} {k : Key} (e : ¬ p.1 = k) : valT (p :: r) k = valT r k := by simp [valT, List.find?_cons, e]
theorem RepD.val : ∀ {kts : List (Key × T)} {kvs : List (Key × V)} (k : Key), RepD K F kts kvs → (valT kts k = none ∧ valV kvs k = none) ∨ ∃ t v, valT kts k = some t ∧ valV kvs k = some v ∧ Rep K F t v
 | [], kvs, k, h => by rw [RepD] at h; subst h; exact .inl ⟨rfl, rfl⟩
 | (k0, t) :: kts, kvs, k, h => by
  rw [RepD] at h
  obtain ⟨v, kvs', rfl, q, r⟩ := h
  by_cases e : k0 = k
  ·exact .inr ⟨t, v, valT_pos (p := (k0, t)) e, valV_pos (p := (k0, v)) e, q⟩
  ·rw [valT_neg (p := (k0, t)) e, valV_neg (p := (k0, v)) e]
   exact RepD.val k r
theorem RepD.any : ∀ {kts : List (Key × T)} {kvs : List (Key × V)} (k : Key), RepD K F kts kvs → (kts.any fun kv => decide (kv.1 = k)) = (kvs.any fun kv => decide (kv.1 = k))
 | [], kvs, k, h => by rw [RepD] at h; subst h; rfl
 | (k0, t) :: kts, kvs, k, h => by
  rw [RepD] at h
  obtain ⟨v, kvs', rfl, q, r⟩ := h
  rw [List.any_cons, List.any_cons, RepD.any k r]
theorem RepD.repl {t' : T} {v' : V} (q' : Rep K F t' v') (k : Key) : ∀ {kts : List (Key × T)} {kvs : List (Key × V)}, RepD K F kts kvs → RepD K F (kts.map fun kv => if kv.1 = k then (kv.1, t') else kv) (kvs.map fun kv => if kv.1 = k then (kv.1, v') else kv)
 | [], kvs, h => by rw [RepD] at h; subst h; exact .nil'
 | (k0, t) :: kts, kvs, h => by
  rw [RepD] at h
  obtain ⟨v, kvs', rfl, q, r⟩ := h
  rw [List.map_cons, List.map_cons]
  by_cases e : k0 = k
  ·simp only [e, if_true]
   exact .cons' q' (RepD.repl q' k r)
  ·simp only [e, if_false]
   exact .cons' q (RepD.repl q' k r)
theorem RepD.append : ∀ {kts uts : List (Key × T)} {kvs uvs : List (Key × V)}, RepD K F kts kvs → RepD K F uts uvs → RepD K F (kts ++ uts) (kvs ++ uvs)
 | [], uts, kvs, uvs, h, g => by rw [RepD] at h; subst h; exact g
 | (k0, t) :: kts, uts, kvs, uvs, h, g => by
  rw [RepD] at h
  obtain ⟨v, kvs', rfl, q, r⟩ := h
  exact .cons' q (r.append g)
theorem RepD.put {kts : List (Key × T)} {kvs : List (Key × V)} {t : T} {v : V} (h : RepD K F kts kvs) (k : Key) (q : Rep K F t v) : RepD K F (putT kts k t) (putK kvs k v) := by
 unfold putT putK
 rw [h.any k]
 by_cases e : (kvs.any fun kv => decide (kv.1 = k)) = true
 ·rw [if_pos e, if_pos e]; exact RepD.repl q k h
 ·rw [if_neg e, if_neg e]; exact h.append (.cons' q .nil')
theorem key_now {H : Hp} {v : V} {t : T} {k : Key} (h : Now K F H v t) (e : asKey t = some k) : v = kV k := by
 cases t with
 | int i => cases e; exact h.int
 | str x => cases e; exact h.str
 | _ => cases e
end
section
variable {X : Cx} {a b c : Expr} {da db dc : D} {pos p p2 : Pos} {k : Nat}
theorem units_of (hr : Room k X.A) : X.A.units + 1 < cLine := by have := hr.units; omega
theorem cs_putD (hr : Room k X.A) (i : Nat) {y : Str} {py tpos : Pos} {ik ev : Expr} {dk dv : D} (hk : CE X ik dk) (hv : CE X ev dv) (hN : X.N[i]? = some y := by rfl)
  (hvs : Vis X.env.scope y := by first | exact Or.inl rfl | exact Or.inr (Or.inl rfl) | exact Or.inr (Or.inr rfl)) (hd : (y == ("__debug__" : Str)) = false := by decide) (hcd : (y == ("__classdict__" : Str)) = false := by decide)
  (hs : swapsWith ev (some (.Subscript (.Name y py) ik tpos)) pos.line X.env = pure false := by rfl) :
  CS X (.Assign [.Subscript (.Name y py) ik tpos] ev pos) (sPutD i dk dv) :=
 PS.imp (ps_dput (units_of hr) (pe_var hN hvs hd hcd) hk hv hs) fun D σ H hX11_ => by
  obtain ⟨F, α, e, μ, S, h⟩ := hX11_
  refine ⟨F, α, e, μ, S, (PostS.toS h).mono (fun y μ1 h v H1 F1 α1 x1 S1 o1 => ?_) fun _ _ h => h⟩
  obtain ⟨x, hx, h⟩ := PostS.lift h
  obtain ⟨ov, hov, oo⟩ := S1.sl i x hx
  refine ⟨ov, hov, F1, α1, e, μ1, S1, (PostS.toS h).mono (fun z μ2 h v2 H2 F2 α2 x2 S2 o2 => ?_) fun _ _ h => h.mono x1⟩
  obtain ⟨k, hk, h⟩ := PostS.lift h
  have h := h.toS
  have nk := now_of S2.st o2 hk
  cases hz : frz y μ2 with
  | err c μ3 => exact absurd hz (frz_no y μ2 c μ3)
  | bad => rw [hz] at h; exact h.elim
  | ok t μ3 =>
   rw [hz] at h
   obtain ⟨μ4, ha4, h⟩ := PostS.lift h
   obtain ⟨F3, s3, n3, S3, r3⟩ := frz_ok S2.st (o1.mono x2.same x2.pre) hz
   cases x with
   | cel j =>
    obtain ⟨ad, had, rfl⟩ := oo
    unfold putAtD at ha4
    simp only at ha4
    have hc : ∃ kts kk, μ3[j]? = some (true, .dct kts) ∧ asKey k = some kk ∧ kts.length < szL ∧ μ4 = μ3.set j (true, .dct (putT kts kk t)) := by
     split at ha4
     ·rename_i us hjs
      obtain ⟨kk, e1, e2⟩ := Option.bind_eq_some_iff.mp ha4
      by_cases hl : us.length < szL
      ·rw [if_pos hl] at e2
       cases e2
       exact ⟨us, kk, hjs, e1, hl, rfl⟩
      ·rw [if_neg hl] at e2; cases e2
     ·cases ha4
    obtain ⟨kts, kk, hj3, hkk, hl, rfl⟩ := hc
    have ha3 : α2[j]? = some ad := pre_get x2.pre had
    obtain ⟨_, kvs, hw, rw'⟩ := (S3.cell j true _ ad hj3 ha3).1 rfl
    have el := rw'.length
    have ek := key_now nk hkk
    subst ek
    refine ⟨ad, _, rfl, DPut.k hw (by rw [szL_eq] at hl; omega), ?_⟩
    have x3 : Ex F α H F3 α2 H2 := x1.trans (x2.trans (Ex.of_ne s3 n3))
    exact h σ _ F3 α2 (x3.trans (Ex.put ha3)) ((S2.of s3 (List.prefix_refl _) S3).of (Same.refl _) (List.prefix_refl _) (put_ok S3 hj3 ha3 ⟨_, upd_same, rw'.put kk r3⟩))
   | val t => unfold putAtD at ha4; cases ha4
   | box xs => unfold putAtD at ha4; cases ha4
end
end Fw
namespace Fw
open PySem PySem.Spec PyProof.Rows L2
section
variable {X : Cx} {a b : Expr} {da db : D} {pos p : Pos} {k : Nat}
end
end Fw
namespace L2
open PySem PySem.Spec PyProof.Rows
open AutoSeq1 (wpAny_loadPart')
noncomputable abbrev eH (k : Bool) (h : Heap) (l : Addr) : Heap := (h.push (itRec k l)).push { cls := .type "enumerate", data := .fields #[.none, .bool false, .ref h.objs.size, rawInt 0, .none, .none] }
section
variable {prog : Program} {w : World} {A : Around} {E : Value → Shared → Prop} {s : Shared}
end
end L2
namespace Fw
open PySem PySem.Spec PyProof.Rows L2
end Fw
namespace L2
open PySem PySem.Spec PyProof.Rows
end L2
namespace Fw
open PySem PySem.Spec PyProof.Rows L2
section
variable {K : PySem.W.Frag}
end
section
variable {X : Cx} {a b c : Expr} {da db dc : D} {pos p p2 : Pos} {k : Nat}
theorem ce_int_ (hm : X.mg "int" = none) (ha : CE X a da) (hg : Gl X "int" := by rfl) (hs1 : starEach [a] X.env = (false, eval a X.env) :: starEach [] X.env := by rfl) (hpl : (backTo pos (starEach [] X.env)).any (·.1) = false := by rfl) :
  CE X (.Call (.Name "int" p) [a] [] pos) (dUn fInt da) := ce_ty1 call_int1 (by
 intro F H v t w Q s hv hw q
 cases t with
 | int i => cases hw; cases hv.int; exact .inl ⟨i, rfl, q _ H F Grow.refl (Rep.int' _)⟩
 | bl i => cases hw; cases Rep.of_bl (K := X.K) (F := F) hv; exact .inr ⟨i, rfl, q _ H F Grow.refl (Rep.int' _)⟩
 | _ => cases hw) hm (by decide +kernel) ha hg (by decide) (by decide) hs1 hpl
theorem cb_tri (i j l : Nat) {x y z : Str} {px py pz : Pos} {k : Nat} (hN : X.N.Nodup) (hc : X.calm = true) (hi : X.N[i]? = some x := by rfl) (hj : X.N[j]? = some y := by rfl) (hl : X.N[l]? = some z := by rfl) (hx : Loc X.env.scope x := by first | exact Or.inl rfl | exact Or.inr rfl)
  (hy : Loc X.env.scope y := by first | exact Or.inl rfl | exact Or.inr rfl) (hz : Loc X.env.scope z := by first | exact Or.inl rfl | exact Or.inr rfl)
  (hf : X.fn x = true ∨ X.env.scope.names.lookup x = some .local := by first | exact .inl rfl | exact .inr rfl | assumption) (hf' : X.fn y = true ∨ X.env.scope.names.lookup y = some .local := by first | exact .inl rfl | exact .inr rfl | assumption)
  (hf'' : X.fn z = true ∨ X.env.scope.names.lookup z = some .local := by first | exact .inl rfl | exact .inr rfl | assumption)
  : CB X (.Tuple [.Name x px, .Name y py, .Name z pz] k pos) (bTup [i, j, l]) :=
 PG.imp (pg_tup hc (pgs_cons (pg_name hN hi hx hf) (pgs_cons (pg_name hN hj hy hf') (pgs_cons (pg_name hN hl hz hf'') pgs_nil)))) fun v σ H Q hX11_ => by
  obtain ⟨F, α, e, μ, t, e', S, r, hb, q⟩ := hX11_
  cases t with
  | tup ts =>
   unfold bTup at hb
   simp only at hb
   by_cases hl : ts.length = [i, j, l].length
   ·rw [if_pos hl] at hb
    rw [Rep] at r
    obtain ⟨a, vs, rfl, hq, hr⟩ := r
    match ts, vs, hl, hr with
    | [t1, t2, t3], vs, _, hr =>
     rw [RepL] at hr
     obtain ⟨v1, vs1, rfl, r1, hr⟩ := hr
     rw [RepL] at hr
     obtain ⟨v2, vs2, rfl, r2, hr⟩ := hr
     rw [RepL] at hr
     obtain ⟨v3, vs3, rfl, r3, hr⟩ := hr
     rw [RepL] at hr
     subst hr
     cases hb
     exact ⟨a, _, rfl, Same.seqT S.st.ext hq, rfl, v1, [v2, v3], rfl, v2, [v3], rfl, v3, [], rfl, rfl, q _ (((S.set (x := .val t1) r1).set (x := .val t2) r2).set (x := .val t3) r3)⟩
   ·rw [if_neg hl] at hb; cases hb
  | _ => cases hb
theorem cs_unp {tg : Expr} {is : List Nat} (hg : CB X tg (bTup is)) (he : CE X a da) (hs : swapsWithSole [tg] a pos.line X.env = pure false := by rfl) (hw : swappedStores [tg] a X.env = pure none := by rfl)
  (h1 : (assignEach [tg] X.env).map (·.2) = [assign tg X.env] := by rfl) : CS X (.Assign [tg] a pos) (sUnp is da) :=
 PS.imp (ps_asg he hg hs hw h1) fun D σ H ⟨F, α, e, μ, S, h⟩ =>
  ⟨F, α, e, μ, S, (PostS.toS h).mono (fun x μ1 h v H1 F1 α1 x1 S1 o1 => by
   obtain ⟨e', hb, hp⟩ := PostS.lift h
   obtain ⟨t, ht, hb⟩ := Option.bind_eq_some_iff.mp hb
   cases x with
   | val t' => cases ht; exact ⟨F1, α1, e, μ1, t, e', S1, o1, hb, fun σ' S' => hp σ' H1 F1 α1 x1 S'⟩
   | cel _ => cases ht
   | box _ => cases ht) fun _ _ h => h⟩
end
end Fw
namespace L2
open PySem PySem.Spec PyProof.Rows
end L2
namespace Fw
open PySem PySem.Spec PyProof.Rows L2
section
variable {X : Cx} {a b c : Expr} {da db dc : D} {pos p p2 pu pc : Pos} {k : Nat}
end
end Fw
namespace Fw
open PySem PySem.Spec PyProof.Rows L2
section
variable {X : Cx} {a b c : Expr} {da db dc : D} {pos p p2 pu pc : Pos} {k : Nat}
end
end Fw
namespace Fw
open PySem PySem.Spec PyProof.Rows L2
section
variable {X : Cx} {pos : Pos}
end
end Fw
namespace Fw
open PySem PySem.Spec PyProof.Rows L2
section
variable {X : Cx} {pos p : Pos} {k : Nat} {a : Expr} {da : D}
end
end Fw
namespace Fw
open PySem PySem.Spec PyProof.Rows L2
section
variable {X : Cx} {a b : Expr} {da db : D} {pos p : Pos} {k : Nat}
end
end Fw
namespace Fw
open PySem PySem.Spec PyProof.Rows L2
section
variable {X : Cx} {a b : Expr} {da db : D} {pos : Pos}
end
end Fw
namespace Fw
open PySem PySem.Spec PyProof.Rows L2
section
variable {X : Cx} {body : List Stmt} {es : List Expr} {ds : List D} {d : DS} {pos np lp : Pos}
end
end Fw
namespace L2
open PySem PySem.Spec PyProof.Rows
section
variable {prog : Program} {w : World} {A : Around} {E : Value → Shared → Prop} {s : Shared}
end
section
variable {prog : Program} {w : World} {A : Around} {E : Value → Shared → Prop} {s : Shared}
end
end L2
namespace L2
open PySem PySem.Spec PyProof.Rows
end L2
namespace Fw
open PySem PySem.Spec PyProof.Rows L2
end Fw
namespace L2
open PySem PySem.Spec PyProof.Rows
open AutoSeq1 (wpAny_loadPart')
section
variable {prog : Program} {w : World} {A : Around} {E : Value → Shared → Prop} {s : Shared}
end
end L2
namespace HT
open PySem PySem.Spec PyProof.Rows L2
section
variable {prog : Program} {w : World} {A : Around} {E : Value → Shared → Prop} {s : Shared}
end
end HT
namespace L2
open PySem PySem.Spec PyProof.Rows
end L2
namespace Fw
open PySem PySem.Spec PyProof.Rows L2
end Fw
namespace Fw
open PySem L2 PyProof.Rows
noncomputable abbrev bmV : List Value := [.type "ValueError", .type "Exception", .type "BaseException", .type "object"]
theorem excK_of {K : PySem.W.Frag} {C : Addr} (h : PySem.W.excIn K C bmV "ValueError.__new__" = true) : ExcK K C := ⟨⟨_, _, h, by decide⟩⟩
theorem cls_of {K : PySem.W.Frag} {C : Addr} {v : Value} {b : Bool} (h : PySem.W.mroIn K C v = some b) : (PySem.W.clsIn K C).isSome = true := by
 unfold PySem.W.mroIn at h
 cases q : PySem.W.clsIn K C with
 | none => rw [q] at h; cases h
 | some cd => rfl
theorem mroK_of {K : PySem.W.Frag} {C : Addr} {v : Value} {b : Bool} (h : PySem.W.mroIn K C v = some b) : (mroK K C).contains v = b := by
 unfold PySem.W.mroIn PySem.W.clsIn at h
 unfold mroK
 split at h
 ·rename_i ho
  rw [ho]
  simp only [Option.bind_some] at h
  split at h
  ·cases h
  ·exact Option.some.inj h
 ·cases h
theorem fm_nil {α : Type} {P : α → Prop} : ∀ q ∈ ([] : List α), P q := fun _ h => nomatch h
theorem fm_cons {α : Type} {P : α → Prop} {a : α} {l : List α} (h : P a) (hl : ∀ q ∈ l, P q) : ∀ q ∈ a :: l, P q := fun q hq => by
 rcases List.mem_cons.mp hq with rfl | hq
 ·exact h
 ·exact hl q hq
theorem f_one {R : Str} {b : Bool} {P : Str → Bool → Prop} (h : P R b) : ∀ n b', (if n = R then some b else none) = some b' → P n b' := fun n b' e => by
 by_cases hn : n = R
 ·rw [if_pos hn] at e
  cases e
  rw [hn]; exact h
 ·rw [if_neg hn] at e; cases e
theorem ch_one {X : Cx} {hs : List ExceptHandler} {R : Str} {d : DS} (h : CH1 X hs R d) : CH X hs (fun n => if n = R then d else sBad) := CH.of fun n => by
 by_cases hn : n = R
 ·rw [if_pos hn, hn]; exact h
 ·rw [if_neg hn]; exact ch1_bad
end Fw
namespace Fw
open PySem L2 PyProof.Rows
noncomputable abbrev calmed (X : Cx) : Cx := { X with xe := fun _ _ => False }
section
variable {X : Cx} {pins : List (Addr × Obj)} {σ : L2.St} {H : Hp} {s : Shared}
theorem inv_calmed (I : Inv X pins σ H s) : Inv (calmed X) pins σ H s :=
 ⟨⟨I.ok.mod, I.ok.kind, I.ok.glob, I.ok.blt, I.ok.above, I.ok.inj, I.ok.has, I.ok.cab, I.ok.hd, I.ok.frames, I.ok.stk, I.ok.exf, I.ok.bs, I.ok.bsz, I.ok.noex, I.ok.exfs, I.ok.funs, I.ok.frf⟩, I.os, I.bare, I.base, I.loc, I.cell, I.free, I.freeC, I.pin, I.hok, I.len⟩
theorem inv_uncalmed (ok : X.Ok) (I : Inv (calmed X) pins σ H s) : Inv X pins σ H s :=
 ⟨ok, I.os, I.bare, I.base, I.loc, I.cell, I.free, I.freeC, I.pin, I.hok, I.len⟩
theorem sp_uncalmed {D : Ends} {f : Flow} (ok : X.Ok) (h : SP (calmed X) pins D f s) : SP X pins D f s := by
 cases f with
 | next => obtain ⟨σ', H', I, q⟩ := h; exact ⟨σ', H', inv_uncalmed ok I, q⟩
 | brk => obtain ⟨σ', H', I, q⟩ := h; exact ⟨σ', H', inv_uncalmed ok I, q⟩
 | cont => obtain ⟨σ', H', I, q⟩ := h; exact ⟨σ', H', inv_uncalmed ok I, q⟩
 | ret u => obtain ⟨v, σ', H', I, r, q⟩ := h; exact ⟨v, σ', H', inv_uncalmed ok I, r, q⟩
end
theorem post_calm {X : Cx} {F H : Hp} {α : List Addr} {D : Ends} {d : DS} {e : Slots} {μ : Store} (h : PostS X F α H D (sCalm d e μ)) : PostS (calmed X) F α H D (d e μ) := by
 unfold sCalm at h
 cases q : d e μ with
 | err c e1 μ1 => rw [q] at h; exact False.elim h
 | nx e1 μ1 => rw [q] at h; exact h
 | rt y μ1 => rw [q] at h; exact h
 | bk e1 μ1 => rw [q] at h; exact h
 | ct e1 μ1 => rw [q] at h; exact h
 | bad => rw [q] at h; exact h
theorem css_calm {X : Cx} {body : List Stmt} {d : DS} (h : CSs (calmed X) body d) : CSs X body (sCalm d) := by
 intro pins s σ H D I ⟨F, α, e, μ, S, hd⟩
 exact wpAny_mono (h pins s σ H D (inv_calmed I) ⟨F, α, e, μ, S, post_calm hd⟩) (fun f s' q => sp_uncalmed I.ok q) fun _ _ z => z.elim
noncomputable def fIsB : T → T → Option T := fun t u => match u with
 | .bl b => isBl b t
 | _ => none
section
variable {X : Cx} {a : Expr} {da : D} {p pos : Pos} {b : Bool}
theorem op_isB : OpR X (compareOp .Is) (fun x y H Q => (x = .non ∨ ∃ c, x = .bl c) ∧ ∃ b, y = .bl b ∧ Q (.bl (decide (x = .bl b))) H) := by
 intro pins s σ H x y v u Q I rx ry h
 obtain ⟨hx, b, rfl, q⟩ := h
 cases ry
 rcases hx with rfl | ⟨c, rfl⟩
 ·cases rx
  exact wpAny_pure (a := Value.bool (Value.none == Value.bool b)) (fin_bl I q rfl)
 ·cases rx
  refine wpAny_pure (a := Value.bool (Value.bool c == Value.bool b)) (fin_bl I q ?_)
  cases c <;> cases b <;> rfl
theorem sem_isB {K : PySem.W.Frag} : OpSem K (fun x y H Q => (x = .non ∨ ∃ c, x = .bl c) ∧ ∃ b, y = .bl b ∧ Q (.bl (decide (x = .bl b))) H) fIsB := by
 intro F H v u t t' w Q s hv hu hw q
 cases t' with
 | bl b =>
  have e := hu.bl
  subst e
  cases t with
  | non =>
   have e : v = .non := Rep.of_non (K := K) (F := F) hv
   subst e
   cases hw
   exact ⟨.inl rfl, b, rfl, q _ H F Grow.refl (Rep.bl' _)⟩
  | bl c =>
   have e := hv.bl
   subst e
   cases hw
   refine ⟨.inr ⟨c, rfl⟩, b, rfl, ?_⟩
   have e : decide (V.bl c = V.bl b) = (c == b) := by cases c <;> cases b <;> rfl
   rw [e]
   exact q _ H F Grow.refl (Rep.bl' _)
  | _ => cases hw
 | _ => cases hw
theorem dUn_isB : dBin fIsB da (dC (.bl b)) = dUn (isBl b) da := by
 funext e μ
 rw [dBin_is, dUn_is]
 cases da e μ with
 | ok x μ1 => rw [R.bind_ok, R.bind_ok, dC_is, R.bind_ok]; cases rd μ1 x <;> rfl
 | err c μ1 => rfl
 | bad => rfl
theorem ce_isB {j} (ha : CE X a da) : CE X (.Compare a [.Is] [.Constant (.bool b) j p] pos) (dUn (isBl b) da) := dUn_isB ▸ ce_cmp op_isB sem_isB (nomark _) ha ce_bl
end
section
variable {X : Cx} {E : Value → Shared → Prop} {pins : List (Addr × Obj)} {σ : L2.St} {H : Hp} {s : Shared}
end
end Fw
namespace L2
open PySem PySem.Spec PyProof.Rows Fw
section
variable {X : Cx}
end
end L2
namespace Fw
open PySem PySem.Spec PyProof.Rows L2
section
variable {X : Cx} {a : Expr} {da : D} {p pos : Pos}
end
end Fw
namespace Fw
open PySem PySem.Spec PyProof.Rows L2
section
variable {X : Cx} {pins : List (Addr × Obj)} {σ : L2.St} {H : Hp} {s : Shared} {k : Nat}
end
section
variable {X : Cx} {a b : Expr} {da db : D} {pos : Pos} {k : Nat}
end
end Fw
namespace Fw
open PySem
end Fw
namespace Fw
open PySem
end Fw
namespace L2
open PySem PySem.Spec PyProof.Rows Fw
section
variable {X : Cx}
end
end L2
namespace Fw
open PySem PySem.Spec PyProof.Rows L2
section
variable {X : Cx}
end
end Fw
namespace Fw
open PySem PySem.Spec PyProof.Rows L2
section
variable {X : Cx} {a b : Expr} {da db : D} {pos : Pos}
end
end Fw
namespace L2
open PySem PySem.Spec PyProof.Rows Fw
section
variable {X : Cx}
end
end L2
namespace Fw
open PySem PySem.Spec PyProof.Rows L2
section
variable {X : Cx} {a : Expr} {da : D} {pos p2 : Pos}
end
end Fw
namespace L2
open PySem PySem.Spec PyProof.Rows
end L2
namespace Fw
open PySem PySem.Spec PyProof.Rows L2
end Fw
namespace L2
open PySem PySem.Spec PyProof.Rows Fw
end L2
namespace Fw
open PySem PySem.Spec PyProof.Rows L2
end Fw
namespace L2
open PySem PySem.Spec PyProof.Rows Fw
section
variable {X : Cx}
end
end L2
namespace Fw
open PySem PySem.Spec PyProof.Rows L2
section
variable {X : Cx}
end
end Fw
namespace Fw
open PySem
end Fw
namespace Fw
open PySem PySem.Spec PyProof.Rows L2
section
variable {X : Cx}
variable {a b : Expr} {da db : D} {pos : Pos}
end
end Fw
namespace L2
open PySem PySem.Spec PyProof.Rows Fw
theorem list_extend_any (l : Addr) (items : Array Value) (n : Nat) (b : Addr) (o2 : Obj) (items2 : Array Value) (n2 : Nat) (h1 : o2.cls = .type "list") (h2 : o2.dict = none) (h3 : o2.data = .seq items2 n2) (hc0 : ¬(!items.isEmpty && Builtin.List.listTooLong (items.size + items2.size)) = true) (hc1 : items.size ≤ sizeLine) (hs2 : items.size + items2.size ≤ sizeLine + 1) :
  Meets (Builtin.«list.extend» ⟨[.ref l, .ref b], []⟩) (fun _ R s => s.heap.get? l = some { cls := .type "list", dict := none, data := .seq items n, slots := #[] } ∧ s.heap.get? b = some o2 ∧ R (.ok (.ret Value.none)) { s with heap := s.heap.update l (Obj.mapSeq fun x => x ++ items2), toks := s.toks }) :=
 .of_wp fun prog w A R s h => by
  obtain ⟨c2, d2, dt2, sl2⟩ := o2
  cases h1; cases h2; cases h3
  obtain ⟨hp, g, d, tk, os⟩ := s; obtain ⟨hl, hb, h⟩ := h; have f1 := AutoSeq1.idx_int; have f2 := AutoSeq1.sub_tuple_tuple; have f3 := AutoSeq1.sub_list_list; have f4 := AutoSeq1.sub_tuple_list; have f5 := AutoSeq1.sub_list_tuple;
  have hz' : (items ++ items2).size ≤ sizeLine + 1 := by rw [Array.size_append]; exact hs2
  wp_walk using (wpAny_updateSeq hl rfl (hz := hc1) (_hz' := hz')), AutoSeq1.wpAny_loadPart' hl, AutoSeq1.wpAny_loadPart' hb; exact ⟨_, rfl, h⟩
section
variable {X : Cx}
noncomputable def rExtQ (K : PySem.W.Frag) : V → List V → Hp → VK → Prop := fun x vs H Q => ∃ l b xs zs, x = .ref l ∧ vs = [.ref b] ∧ H l = some (.lst xs) ∧ SqL K H b zs ∧ xs.length + zs.length ≤ sizeLine ∧ Q .non (upd H l (.lst (xs ++ zs)))
theorem mt_extendQ : MtM X "list.extend" (rExtQ X.K) := by
 intro pins s σ H x vs v us Q I rx rv h
 obtain ⟨l, b, xs, zs, rfl, rfl, hH, hB, hz, q⟩ := h
 cases rx
 obtain ⟨u, rfl, ru⟩ := rv.one
 cases ru
 obtain ⟨z, its, n, r, hl, e⟩ := I.lstM hH
 obtain ⟨its2, r2, ⟨o2, n2, e2, k1, k2, k3⟩, z2⟩ := I.list hB
 have hl2 := r2.length
 have hsz : its.toArray.size + its2.toArray.size ≤ sizeLine := by rw [List.size_toArray, List.size_toArray]; lia
 have hlong : ¬ (!its.toArray.isEmpty && Builtin.List.listTooLong (its.toArray.size + its2.toArray.size)) = true := by
  rw [notLongL hsz, Bool.and_false]
  exact Bool.false_ne_true
 refine call_meets F.slot_list_extend ⟨_, e, rfl⟩ F.entry_list_extend (F.args_list_extend_2 _ _)
  (list_extend_any l its.toArray n b o2 its2.toArray n2 k1 k2 k3 hlong (by rw [List.size_toArray]; lia) (by lia)) ⟨e, e2, ?_⟩
 refine ⟨.non, _, I.lset (its' := its ++ its2) hH e (by simp) (r.append r2) ?_, rfl, q⟩
 rw [List.length_append]
 lia
end
end L2
namespace Fw
open PySem PySem.Spec PyProof.Rows L2
section
variable {X : Cx} {pos : Pos}
theorem cs_extendV {o e1 : Expr} {do_ de : D} {apos cpos : Pos} (ho : CE X o do_) (he : CE X e1 de) (hbase : attributeBase o "extend" X.env (eval o X.env) = eval o X.env := by rfl)
  (hfew : ((backTo cpos (starEach [e1] X.env)).all (fun x => !x.1) && (backToKw cpos (keywordEach [] X.env)).all (fun x => x.1.isSome) && decide (([e1] : List Expr).length + ([] : List Keyword).length + (if ([] : List Keyword).isEmpty then 0 else 1) < 30)) = true := by rfl)
  (hline : (apos.endLine == cpos.line) = true := by rfl) (hs1 : starEach [e1] X.env = (false, eval e1 X.env) :: starEach [] X.env := by rfl) (hpl : (backTo cpos (starEach [] X.env)).any (·.1) = false := by rfl)
  (hs : swapsWith (.Call (.Attribute o "extend" apos) [e1] [] cpos) none pos.line X.env = pure false := by rfl) :
  CS X (.Expr (.Call (.Attribute o "extend" apos) [e1] [] cpos) pos) (sExtend do_ de) :=
 PS.imp (ps_expr (pe_bm PySem.F.plainAttrs_list PySem.F.slot_list_extend PySem.F.type_list_extend mt_extendQ ho (ca_cons he ca_nil hs1) hbase hfew hline hs1 hpl) hs) fun D σ H hX11_ => by
  obtain ⟨F, α, e, μ, S, h⟩ := hX11_
  refine ⟨F, α, e, μ, S, (PostS.toS h).mono (fun x μ1 h v H1 F1 α1 x1 S1 o1 => ?_) fun _ _ h => h⟩
  obtain ⟨_, hl, h⟩ := h.lift
  cases x with
  | cel j =>
   obtain ⟨ad, ha, rfl⟩ := o1
   have hc : ∃ bb ts, μ1[j]? = some (bb, .lst ts) := by
    unfold lsts at hl
    simp only at hl
    split at hl
    ·exact ⟨_, _, by assumption⟩
    ·cases hl
   obtain ⟨bb, ts, hj⟩ := hc
   have n1 := now_of S1.st (x := .cel j) (t := .lst ts) ⟨ad, ha, rfl⟩ (by rw [rd_cel, hj]; rfl)
   obtain ⟨a', vs, e1, hq, _⟩ := n1.lst_
   cases e1
   refine ⟨.inl ⟨rfl, vs, hq⟩, args1 ⟨F1, α1, e, μ1, S1, (PostS.toS h).mono (fun y μ2 h v2 H2 F2 α2 x2 S2 o2 => ?_) fun _ _ h => h.mono x1⟩⟩
   obtain ⟨μ3, hx3, hpost⟩ := PostS.lift h
   obtain ⟨t, ht, hx3⟩ := Option.bind_eq_some_iff.mp hx3
   cases y with
   | val t' =>
    cases ht
    cases t with
    | lst us =>
     have o2 : Rep X.K F2 (.lst us) v2 := o2
     rw [Rep] at o2
     obtain ⟨p, vs2, rfl, hv2, hr2⟩ := o2
     have hx3 : extendAt (.cel j) (.lst us) μ2 = some μ3 := hx3
     have hcc : ∃ ts2, μ2[j]? = some (true, .lst ts2) ∧ ts2.length + us.length ≤ szL ∧ μ3 = μ2.set j (true, .lst (ts2 ++ us)) := by
      unfold extendAt at hx3
      try simp only at hx3
      split at hx3
      ·rename_i ts2 hj2
       by_cases hz : ts2.length + us.length ≤ szL
       ·rw [if_pos hz] at hx3
        cases hx3
        exact ⟨ts2, hj2, hz, rfl⟩
       ·rw [if_neg hz] at hx3; cases hx3
      ·cases hx3
     obtain ⟨ts2, hj2, hz, rfl⟩ := hcc
     have ha2 : α2[j]? = some ad := pre_get x2.pre ha
     obtain ⟨_, ws, hw, rw'⟩ := (S2.st.cell j true _ ad hj2 ha2).1 rfl
     have l1 := rw'.length
     have l2 := hr2.length
     refine ⟨ad, p, ws, vs2, rfl, rfl, hw, S2.st.ext.seq hv2, by rw [szL_eq] at hz; lia, ?_⟩
     exact hpost σ _ F2 α2 ((x1.trans x2).trans (Ex.put ha2)) (S2.of (Same.refl _) (List.prefix_refl _) (put_ok S2.st hj2 ha2 ⟨_, upd_same, rw'.append hr2⟩))
    | _ => cases hx3
   | cel j => cases ht
   | box xs => cases ht
  | val t => cases hl
  | box xs => cases hl
end
end Fw
namespace Fw
open PySem
end Fw
namespace Fw
open PySem PySem.Spec PyProof.Rows L2
end Fw
namespace L2
open PySem PySem.Spec PyProof.Rows
section
variable {prog : Program} {w : World} {A : Around} {E : Value → Shared → Prop} {s : Shared}
theorem typ_kw {T nI iI : String} {Bn Bi : Builtin} {as : List Value} {kw : List (Str × Value)} {S : PySem.Spec} {Q Q1 : Value → Shared → Prop} (ft : TypeCalled T nI iI)
  (a1 : checkTypeCall T ⟨as, kw⟩ = pure ()) (a2 : checkBuiltinCall nI ⟨.type T :: as, kw⟩ = pure ()) (b1 : entryFor table nI = some Bn) (b2 : entryFor table iI = some Bi)
  (g : Meets (Bn ⟨.type T :: as, kw⟩) S) (hS : S A.in1 (wants Q1 E) s)
  (nx : ∀ ob t1, Q1 ob t1 → t1.TypeIs ob T ∧ argsOk iI ⟨ob :: as, kw⟩ ∧ ∃ Si, Meets (Bi ⟨ob :: as, kw⟩) Si ∧ Si A.in1 (wants (fun r t2 => r = .none ∧ Q ob t2) E) t1) :
  wpAny (model prog w) A (call (.type T) as kw) Q E s := by
 obtain ⟨c0, tl0, m0⟩ := ft.mro
 have m1 := ft.made
 have m2 := ft.sub
 refine wpAny_call (codeAny_of_tree (show wpAny _ _ (callAny (.type T) _) _ _ _ from wpAny_pure ⟨Code.quiet_builtin _ (by decide +kernel), codeAny_builtin F.entry_type_call ?_⟩))
 rw [Around.under_plain (weight_type_call_type T as kw) (units_type_call_type T as kw)]
 have m3 := ft.notType
 have m4 := ft.canCreate
 repeat (any_goals (first | assumption | wp_step))
 refine codeAny_mono (codeAny_call_builtin ft.plain b1 (wpAny_of_eq a2 (g prog w A.in1 _ s hS))) fun z t1 hz => ?_
 cases z with
 | error e => exact hz
 | ok fl =>
  cases fl with
  | ret ob =>
   obtain ⟨h1, h2, Si, h3, h4⟩ := nx _ _ hz
   have m5 := ft.init.lookup
   have m6 := ft.init.bind ob
   repeat (any_goals (first | assumption | wp_step))
   refine codeAny_mono (codeAny_call_builtin ft.init.plain b2 (ft.init.check _ _ _ _ _ _ _ _ h1 h2 (h3 prog w A.in1 _ t1 h4))) fun z2 t2 hz2 => ?_
   cases z2 with
   | error e => exact hz2
   | ok f2 =>
    cases f2 with
    | ret r =>
     obtain ⟨rfl, hq⟩ := hz2
     repeat (any_goals (first | assumption | wp_step))
    | _ => exact hz2.elim
  | _ => exact hz.elim
theorem init_kw {T nI : String} {me : Value} {as : List Value} {kw : List (Str × Value)} (a1 : typeLookup (.type T) "__init__" = pure (some (.builtin "object.__init__"))) (a2 : Bind.madeBy (.type T) = pure (some nI)) (a3 : (some nI != some "object.__new__") = true) :
  Meets (Builtin.«object.__init__» ⟨me :: as, kw⟩) (fun _ R s => s.TypeIs me T ∧ R (.ok (.ret .none)) s) := by
 refine Meets.of_wp fun prog w A R s hs => ?_
 obtain ⟨h1, h2⟩ := hs
 cases as with
 | nil =>
  cases kw with
  | nil => exact wpAny_pure ⟨_, rfl, h2⟩
  | cons k kw =>
   repeat (any_goals (first | assumption | wp_step))
   exact ⟨_, rfl, h2⟩
 | cons a as =>
  repeat (any_goals (first | assumption | wp_step))
  exact ⟨_, rfl, h2⟩
end
theorem typ_enum1 (a : Value) (t : Tok) : checkTypeCall "enumerate" ⟨[a], [("start", .int 1 t)]⟩ = pure () := by kernel_rfl
theorem new_enum1 (a : Value) (t : Tok) : checkBuiltinCall "enumerate.__new__" ⟨[.type "enumerate", a], [("start", .int 1 t)]⟩ = pure () := by kernel_rfl
theorem init_enum1 (ob a : Value) (t : Tok) : argsOk "object.__init__" ⟨[ob, a], [("start", .int 1 t)]⟩ := by
 first | exact PySem.F.args_object_init_2 ob _ | (unfold argsOk; kernel_rfl) | (show Bind.checkArgs _ _ _ = pure (); kernel_rfl)
noncomputable abbrev eH1 (h : Heap) (l : Addr) : Heap := (h.push (itRec false l)).push { cls := .type "enumerate", data := .fields #[.none, .bool false, .ref h.objs.size, rawInt 1, .none, .none] }
open AutoSeq1 (wpAny_loadPart') in
set_option maxHeartbeats 4000000 in
theorem enum_newT1 (l : Addr) (its : Array Value) (n : Nat) (dc : Option Addr) (sl : Array (Option Value)) (t : Tok) :
  Meets (Builtin.«enumerate.__new__» ⟨[.type "enumerate", .ref l], [("start", .int 1 t)]⟩) (fun _ R s => s.heap.get? l = some { cls := .type "tuple", dict := dc, data := .seq its n, slots := sl } ∧
   R (.ok (.ret (.ref (s.heap.push (itRec false l)).objs.size))) { s with heap := eH1 s.heap l }) :=
 .of_wp fun prog w A R s h => by
  obtain ⟨hp, g, d, tk, os⟩ := s
  obtain ⟨hl, h⟩ := h
  have q1 := sub_enumerate
  have q2 := AutoSeq1.idx_int
  have hT : Heap.IsTuple (Shared.heap ⟨hp, g, d, tk, os⟩) l its := ⟨_, hl, rfl, n, rfl⟩
  wp_walk using wpAny_loadPart' hl
  refine wpAny_stack_any fun st => wpAny_pure ?_
  split
  ·rename_i c _ _ _ _ _
   cases (c == Value.type "enumerate")
   ·(wp_walk using wpAny_loadPart' hl, wpAny_pyIter_tuple hT); exact ⟨_, rfl, h⟩
   ·(wp_walk using wpAny_loadPart' hl, wpAny_pyIter_tuple hT); exact ⟨_, rfl, h⟩
  ·(wp_walk using wpAny_loadPart' hl, wpAny_pyIter_tuple hT); exact ⟨_, rfl, h⟩
end L2
namespace L2
open PySem PySem.Spec PyProof.Rows
section
variable {prog : Program} {w : World} {A : Around} {E : Value → Shared → Prop} {s : Shared}
theorem drawsK1 {k : Bool} (hh : A.handled = none) (it l : Addr) (hne : l ≠ it) (its : Array Value) :
  Draws prog w A it [it, l] (its.size + 1) (fun i v => its[i - 1]? = some v) (fun i h => 1 ≤ i ∧ KIt k h it l (i - 1) ∧ KSq k h l its) where
 live := fun _ _ st => by obtain ⟨o, ho, _⟩ := st.2.1.ob; exact ⟨o, ho⟩
 frame := fun _ _ _ st hk => ⟨st.1, st.2.1.at fun o e => hk it (by simp) o e, st.2.2.at fun o e => hk l (by simp) o e⟩
 item := fun i s Q E hi st hQ => by
  have hl : i - 1 < its.size := by have := st.1; lia
  exact nextK_item st.2.1 st.2.2 (x := its[i - 1]) (by simp [hl]) fun h' hit' hs' => hQ _ h' s.toks (by simp [hl]) ⟨by lia, by rw [show i + 1 - 1 = i - 1 + 1 by have := st.1; lia]; exact hit', st.2.2.at fun o e => hs'.extBut _ _ hne e⟩ hs'
 done := fun s Q E st hE => nextK_end hh st.2.1 st.2.2 (by simp) hE
theorem call_enum1 {l : Addr} {xs : Array Value} {t : Tok} {Q : Value → Shared → Prop} (hl : KSq false s.heap l xs)
  (h : ∀ h', IsEnum h' (s.heap.objs.size + 1) s.heap.objs.size 1 .none → KIt false h' s.heap.objs.size l 0 → h'.objs.size = s.heap.objs.size + 2 → (∀ c o, s.heap.get? c = some o → h'.get? c = some o) → Q (.ref (s.heap.objs.size + 1)) { s with heap := h' }) :
  wpAny (model prog w) A (call (.type "enumerate") [.ref l] [("start", .int 1 t)]) Q E s := by
 obtain ⟨⟨c, dct, dt, sl⟩, hg, hc, n, hd⟩ := hl
 simp only at hc hd
 subst hc hd
 have z1 : (s.heap.push (itRec false l)).objs.size = s.heap.objs.size + 1 := Heap.size_push ..
 have g2 : (eH1 s.heap l).get? (s.heap.push (itRec false l)).objs.size = some _ := Heap.get?_push_size _ rfl
 have g1 : (eH1 s.heap l).get? s.heap.objs.size = some (itRec false l) := Heap.get?_push_of_some _ (Heap.get?_push_size _ rfl)
 rw [z1] at g2
 refine typ_kw (Q1 := fun ob s1 => s1.TypeIs ob "enumerate" ∧ Q ob s1) F.called_enumerate (typ_enum1 _ t) (new_enum1 _ t) F.entry_enumerate_new F.entry_object_init (enum_newT1 l xs n dct sl t) ⟨hg, ?_⟩ fun ob t1 hq =>
  ⟨hq.1, init_enum1 ob _ t, _, init_kw F.called_enumerate.init.lookup F.called_enumerate.made (by decide), hq.1, rfl, hq.2⟩
 show _ ∧ _
 rw [z1]
 exact ⟨⟨_, g2, rfl⟩, h _ g2 (KIt.new g1) (by rw [Heap.size_push, z1]) fun c o q => Heap.get?_push_of_some _ (Heap.get?_push_of_some _ q)⟩
end
section
variable {M : Model} {A : Around} {E : Value → Shared → Prop} {s : Shared} {env : Env}
theorem with_kw {pos : Pos} {T : String} {e : Expr} {kws : List Keyword} {Q : Value → Shared → Prop}
  (h : wpAny M A (spliced (backTo pos (starEach [e] env))) (fun vs s1 => wpAny M A (evalAll ((backToKw pos (keywordEach kws env)).map (·.2))) (fun ks s2 => wpAny M A (call (.type T) vs (((backToKw pos (keywordEach kws env)).filterMap (·.1)).zip ks)) Q E s2) E s1) E s)
  (h1 : backTo pos (starEach [e] env) = (false, eval e env) :: backTo pos (starEach [] env) := by rfl) (h2 : (backTo pos (starEach [e] env)).any (·.1) = false := by rfl)
  (h3 : (backToKw pos (keywordEach kws env)).all (·.1.isSome) = true := by rfl) (h4 : (backToKw pos (keywordEach kws env)).any (·.1.isNone) = false := by rfl) :
  wpAny M A (callWith pos (.type T) [] (backTo pos (starEach [e] env)) (backToKw pos (keywordEach kws env))) Q E s := by
 unfold callWith
 refine wpAny_bind (wpAny_holding (wpAny_mono (Q := fun a s1 => wpAny M A (call (.type T) ([] ++ a.pos) a.kw) Q E s1) ?_ (fun a s1 q => wpAny_bind (wpAny_standAt ?_)) fun _ _ x => x))
 ·rw [h1] at h ⊢
  exact evalArgs_kwB h3 h
 ·simp only [h2, h4, Bool.or_false]
  refine wpAny_bind (wpAny_pure ?_)
  exact wpAny_bind (wpAny_mono q (fun r s2 hr => wpAny_bind (wpAny_holding (wpAny_point (wpAny_pure hr)))) fun _ _ x => x)
end
noncomputable def Ite1 (K : PySem.W.Frag) (a : Addr) : It :=
 ⟨fun i H => ∃ xs x, KSqV K false H a xs ∧ xs[i]? = some x,
  fun i H v H' => ∃ p x, v = .ref p ∧ H p = none ∧ H' = upd H p (.tup [.int ((i : Int) + 1), x]) ∧ ∀ xs, KSqV K false H a xs → xs[i]? = some x,
  fun i H => ∃ xs, KSqV K false H a xs ∧ xs.length = i⟩
structure ESt1 (z i1 l1 : Addr) (i : Nat) (h : Heap) : Prop where
 z : ∃ old, IsEnum h z i1 ((i : Int) + 1) old
 one : KIt false h i1 l1 i
theorem turn_enum1 {P : Program} {w : World} {K : PySem.W.Frag} {elts : List Expr} {x1 : Nat} {pos : Pos} {z i1 l1 : Addr} (d : z ≠ i1) :
  Turn P w K (.Tuple elts x1 pos) (Ite1 K l1) [z, i1] z (ESt1 z i1 l1) := by
 refine ⟨by simp, fun i h st b hb => ?_, fun i h h' st k' => ?_, ?_, ?_, fun A i s Q E st hq => ?_⟩
 ·obtain ⟨old, hz⟩ := st.z
  obtain ⟨o1, e1, q1⟩ := st.one.ob
  simp only [List.mem_cons, List.not_mem_nil, or_false] at hb
  rcases hb with rfl | rfl
  ·exact ⟨_, hz, fun v e => by cases e⟩
  ·exact ⟨_, e1, fun v e => by rw [q1] at e; cases e⟩
 ·obtain ⟨old, hz⟩ := st.z
  exact ⟨⟨old, k' z (by simp) _ hz⟩, st.one.at fun o e => k' i1 (by simp) o e⟩
 ·intro X hP hw hK hc i pins s σ H E I hf st hg
  obtain ⟨xs, x, h1, hx⟩ := hg
  subst hP hw hK
  obtain ⟨its1, r1, s1, z1⟩ := I.ksq h1
  obtain ⟨u, hu, ru⟩ := r1.get hx
  obtain ⟨old, hz⟩ := st.z
  have hli : l1 ≠ i1 := ksqv_own I h1 (hf i1 (by simp))
  have hlz : l1 ≠ z := ksqv_own I h1 (hf z (by simp))
  obtain ⟨o1, e1, _⟩ := st.one.ob
  have hlt : i + 1 < its1.toArray.size + 1 := by
   have := (List.getElem?_eq_some_iff.mp hu).1
   simpa using this
  have hne : z ∉ [i1, l1] := by
   simp only [List.mem_cons, List.not_mem_nil, or_false, not_or]
   exact ⟨d, fun e => hlz e.symm⟩
  have hz' : IsEnum s.heap z i1 ((i + 1 : Nat) : Int) old := by rw [Int.natCast_add]; exact hz
  refine wpAny_pyNext_enum_itemD (drawsK1 (k := false) (A := X.A.in1) (I.ok.hd hc) i1 l1 hli its1.toArray) hz' ⟨by lia, st.one, s1⟩ hlt d hne fun y h' tk hy g1 g2 g3 g4 g5 => ⟨_, rfl, ?_⟩
  have ey : y = u := by
   have hy : its1[i]? = some y := by simpa using hy
   rw [hu] at hy
   exact (Option.some.inj hy).symm
  subst ey
  refine wpAny_letOwnedTupleGo_enum g1 fun h'' q1 q2 => ?_
  have lt : ∀ {c : Addr} {o : Obj}, s.heap.get? c = some o → c ≠ s.heap.objs.size := fun e => Nat.ne_of_lt (Heap.lt_size e)
  have hTz : s.heap.objs.size ≠ z := (lt hz).symm
  have new : h''.get? s.heap.objs.size = some { cls := .type "tuple", data := .seq #[.int ((i : Int) + 1) tk, y] } := q2.extBut _ _ hTz g3
  refine ⟨.ref s.heap.objs.size, upd H s.heap.objs.size (.tup [.int ((i : Int) + 1), x]), ?_, rfl, ⟨s.heap.objs.size, x, rfl, I.hok.fresh (Nat.le_refl _), rfl, fun ws hw => by rw [I.ksq_inj hw h1]; exact hx⟩, ?_, fun c hcm => ?_⟩
  ·refine (I.turnedL (ch := [z, i1]) (h' := h'') (fun c o hcn e => ?_) (fun c hcm => hf c hcm) ?_).tok _
   ·simp at hcn
    exact q2.extBut _ _ hcn.1 (g5 c o hcn.1 hcn.2 e)
   ·exact ⟨by show 2 ≤ sizeLine; decide, [.int ((i : Int) + 1) tk, y], .cons ⟨tk, rfl⟩ (.cons ru .nil), ⟨_, new, rfl, 0, rfl⟩⟩
  ·exact ⟨⟨_, by simpa using q1⟩, g2.2.1.at fun o e => q2.extBut _ _ d.symm e⟩
  ·rw [upd_ne]
   ·exact (hf c hcm).1
   ·simp only [List.mem_cons, List.not_mem_nil, or_false] at hcm
    rcases hcm with rfl | rfl
    ·exact lt hz
    ·exact lt e1
 ·intro X hP hw hK hc i pins s σ H E I hf st hg
  obtain ⟨xs, h1, hle⟩ := hg
  subst hP hw hK
  obtain ⟨its1, r1, s1, z1⟩ := I.ksq h1
  obtain ⟨old, hz⟩ := st.z
  have hli : l1 ≠ i1 := ksqv_own I h1 (hf i1 (by simp))
  have l1' := r1.length
  have en : its1.toArray.size = i := by simp; lia
  refine wpAny_pyNext_enum_endD (drawsK1 (k := false) (A := X.A.in1) (I.ok.hd hc) i1 l1 hli its1.toArray) hz ⟨by lia, by rw [en]; exact st.one, s1⟩ fun h' g7 => ⟨rfl, I.turnedN (t' := s.toks) (ch := [z, i1]) (fun c o hcn e => ?_) fun c hcm => hf c hcm⟩
  simp at hcn
  exact g7 c o hcn.2 e
 ·obtain ⟨old, hz⟩ := st.z
  exact wpAny_pyIter_enum hz hq
noncomputable def iEnumV1 (K : PySem.W.Frag) (t : TA) : TI := fun σ H R => t σ H fun vs H1 => ∃ a xs, vs = [.ref a] ∧ KSqV K false H1 a xs ∧ R (Ite1 K a) H1
theorem pi_enum1 {X : Cx} {elts : List Expr} {x1 jx : Nat} {tpos p pos kp cp : Pos} {a : Expr} {t : TA} (hg : Gl X "enumerate") (hm : X.mg "enumerate" = none) (ha : PA X [a] t) (h1 : backTo pos (starEach [a] X.env) = (false, eval a X.env) :: backTo pos (starEach [] X.env)) (h2 : (backTo pos (starEach [a] X.env)).any (·.1) = false) :
  PI X (.Tuple elts x1 tpos) (.Call (.Name "enumerate" p) [a] [⟨some "start", .Constant (.int 1) jx cp, kp⟩] pos) (iEnumV1 X.K t) := by
 intro pins s σ H R I h
 refine wpAny_Call_Name_kw (ld_blt I hg hm PyProof.Rows.boot_enumerate ?_ (by decide) (by decide))
 refine with_kw (thn (ha pos pins s σ H _ I h) fun us s1 hX11_ => ?_) h1 h2
 obtain ⟨vs, H1, I1, r1, q1⟩ := hX11_
 obtain ⟨c, xs, rfl, hk1, q⟩ := q1
 obtain ⟨u1, rfl, ru1⟩ := vals1 r1
 cases ru1
 refine kws_cons (thn ((pe_int (X := X) (i := 1) (j := jx) (pos := cp)) pins s1 σ H1 (fun v H2 => v = .int 1 ∧ H2 = H1) I1 ⟨rfl, rfl⟩) fun v s2 hX21_ => ?_)
 obtain ⟨x, H2, I2, r2, e1, e2⟩ := hX21_
 subst e1 e2
 obtain ⟨tk, rfl⟩ := r2
 refine kws_nil ?_
 obtain ⟨its1, _, s1', _⟩ := I2.ksq hk1
 show wpAny _ _ (call (.type "enumerate") [.ref c] [("start", .int 1 tk)]) _ _ _
 refine call_enum1 s1' fun h' g1 g2 g6 g7 => wpAny_pyIter_enum g1 ?_
 have I3 : Inv X pins σ H2 { s2 with heap := h' } := I2.kept (t' := s2.toks) g7
 refine ⟨_, _, _, _, H2, rfl, I3, turn_enum1 (i1 := s2.heap.objs.size) (l1 := c) (fun e => by have e : s2.heap.objs.size + 1 = s2.heap.objs.size := e; lia), ⟨⟨_, by simpa using g1⟩, g2⟩, fun e he => ?_, q⟩
 have : s2.heap.objs.size ≤ e := by
  simp only [List.mem_cons, List.not_mem_nil, or_false] at he
  rcases he with rfl | rfl
  ·exact Nat.le_add_right _ _
  ·exact Nat.le_refl _
 exact I2.fpOk this (I2.hok.fresh this)
end L2
namespace Fw
open PySem
noncomputable def tupItems : T → Option (List T)
 | .tup ts => some ts
 | _ => none
noncomputable def iEnum1 (d : D) : DI := fun e μ => (d e μ).bind fun x μ1 => (R.lift ((rd μ1 x).bind tupItems) μ1).bind fun ts μ1 => .ok ⟨enumT 1 ts, fun μ' => rd μ' x = rd μ1 x⟩ μ1
theorem iEnum1_is (d : D) (e : Slots) (μ : Store) : iEnum1 d e μ = (d e μ).bind fun x μ1 => (R.lift ((rd μ1 x).bind tupItems) μ1).bind fun ts μ1 => .ok ⟨enumT 1 ts, fun μ' => rd μ' x = rd μ1 x⟩ μ1 := (rfl)
end Fw
namespace Fw
open PySem PySem.Spec PyProof.Rows L2
theorem ci_enum1 {X : Cx} {elts : List Expr} {x1 jx : Nat} {tpos p pos kp cp : Pos} {a : Expr} {da : D} (hm : X.mg "enumerate" = none) (ha : CE X a da) (hg : Gl X "enumerate" := by rfl) (hs : starEach [a] X.env = (false, eval a X.env) :: starEach [] X.env := by rfl)
  (h1 : backTo pos (starEach [a] X.env) = (false, eval a X.env) :: backTo pos (starEach [] X.env) := by rfl) (h2 : (backTo pos (starEach [a] X.env)).any (·.1) = false := by rfl) :
  CI X (.Tuple elts x1 tpos) (.Call (.Name "enumerate" p) [a] [⟨some "start", .Constant (.int 1) jx cp, kp⟩] pos) (iEnum1 da) :=
 PI.imp (pi_enum1 hg hm (ca_cons ha ca_nil hs) h1 h2) fun σ H R0 hX11_ => by
  obtain ⟨F, α, e, μ, S, h⟩ := hX11_
  refine args1 ⟨F, α, e, μ, S, (R.wp_bind h).mono (fun x μ1 h v H1 F1 α1 x1 S1 o1 => ?_) fun _ _ h => h⟩
  obtain ⟨ts, ht, post⟩ := R.wp_lift (R.wp_bind h)
  obtain ⟨t, hr, ht⟩ := Option.bind_eq_some_iff.mp ht
  have et : t = .tup ts := by
   cases t with
   | tup us => cases ht; rfl
   | _ => cases ht
  subst et
  obtain ⟨a1, vs1, rfl, q1, r1⟩ := (show ∃ a vs, v = .ref a ∧ SqT X.K F1 a vs ∧ RepL X.K F1 ts vs from now_of S1.st o1 hr)
  refine ⟨a1, vs1, rfl, Same.seqT S1.st.ext q1, post _ H1 F1 α1 x1 S1 fun F2 α2 μ3 H2 s2 p2 S2 same => ?_⟩
  have e1 : rd μ3 x = rd μ1 x := same
  obtain ⟨b1, ws1, g1, n1, l1⟩ := (show ∃ a vs, V.ref a1 = .ref a ∧ SqT X.K F2 a vs ∧ RepL X.K F2 ts vs from now_of S2 (o1.mono s2 p2) (e1.trans hr))
  cases g1
  have n1' : KSqV X.K false H2 a1 ws1 := Same.seqT S2.ext n1
  refine ⟨fun i t hi => ?_, ?_⟩
  ·obtain ⟨c, hc, rfl⟩ := enumT_get hi
   obtain ⟨v1, hv1, rv1⟩ := l1.get hc
   refine ⟨⟨ws1, v1, n1', hv1⟩, ?_⟩
   rintro z H3 ⟨q, z1, rfl, hq, rfl, f1⟩
   have w1 := f1 ws1 n1'
   rw [hv1] at w1
   cases w1
   have g : Grow F2 H2 (upd F2 q (.tup [.int ((i : Int) + 1), v1])) (upd H2 q (.tup [.int ((i : Int) + 1), v1])) := Grow.new hq
   refine ⟨_, g, ?_⟩
   rw [Rep]
   rw [show (1 : Int) + (i : Int) = (i : Int) + 1 by lia]
   exact ⟨q, _, rfl, SqT.of upd_same, RepL.mono (g.same S2.ext) _ _ (.cons' (Rep.int' _) (.cons' rv1 .nil'))⟩
  ·refine ⟨ws1, n1', ?_⟩
   have := l1.length
   show ws1.length = (enumT 1 ts).length
   rw [enumT_len]
   lia
end Fw
namespace L2
open PySem PySem.Spec PyProof.Rows
section
variable {X : Cx} {pins : List (Addr × Obj)} {σ : L2.St} {H0 H' : Hp} {e t Cc C : Addr} {B h4 h' : Heap} {s1 s3 : Shared} {oC : Obj}
end
end L2
namespace L2
open PySem PySem.Spec PyProof.Rows Fw
section
variable {X : Cx} {elt iter tg : Expr} {scope : Scope} {pos : Pos} {N' : List Str} {g : TG} {mp : List (Option Nat)} {d : D}
end
end L2
namespace Fw
open PySem
end Fw
namespace Fw
open PySem
end Fw
namespace Fw
open PySem
end Fw
namespace Fw
open PySem
end Fw
namespace Fw
open PySem L2 PyProof.Rows
section
variable {X : Cx} {di : DI} {mp : List (Option Nat)} {b : BD} {d : D}
end
end Fw
namespace L2
open PySem PySem.Spec PyProof.Rows Fw
section
variable {X : Cx}
end
end L2
namespace Fw
open PySem L2 PyProof.Rows
section
variable {X : Cx} {a b : Expr} {da db : D} {p pos : Pos}
end
end Fw
namespace L2
open PySem PySem.Spec PyProof.Rows Fw
end L2
namespace Fw
open PySem L2 PyProof.Rows
end Fw
namespace Fw
open PySem
noncomputable def fDictC : T → Option T
 | .dct kts => some (.dct kts)
 | _ => none
noncomputable def asDct : T → Option (List (Key × T))
 | .dct kts => some kts
 | _ => none
noncomputable def fGetO (t u : T) (i : Int) : Option T := (asDct t).bind fun kts => (asKey u).map fun k => (valT kts k).getD (.int i)
noncomputable def dGetO (da db : D) (i : Int) : D := fun e μ => (da e μ).bind fun x μ1 => (R.lift ((rd μ1 x).bind asDct) μ1).bind fun _ μ1 => (db e μ1).bind fun y μ2 => R.lift (((rd μ2 x).bind fun t => (rd μ2 y).bind fun u => fGetO t u i).map SV.val) μ2
theorem dGetO_is (da db : D) (i : Int) (e : Slots) (μ : Store) : dGetO da db i e μ = (da e μ).bind fun x μ1 => (R.lift ((rd μ1 x).bind asDct) μ1).bind fun _ μ1 => (db e μ1).bind fun y μ2 => R.lift (((rd μ2 x).bind fun t => (rd μ2 y).bind fun u => fGetO t u i).map SV.val) μ2 := (rfl)
end Fw
namespace L2
open PySem PySem.Spec PyProof.Rows
theorem call_dictC {X : Cx} : CallR X (.type "dict") (fun xs H Q => ∃ d kvs, xs = [.ref d] ∧ H d = some (.dK kvs) ∧ ∀ l, H l = none → Q (.ref l) (upd H l (.dK kvs))) := by
 intro pins s σ H xs us Q I r h
 obtain ⟨d, kvs, rfl, hd, q⟩ := h
 obtain ⟨u, rfl, ru⟩ := vals1 r
 cases ru
 obtain ⟨z, hS, vs, rel, dd⟩ := dk_of I.hok hd
 refine PySem.kt_call_dict (knd := mixKind X.prog X.w) hS dd (by rw [← rel.length]; exact z) fun h' hd' hs => ?_
 have keep : ∀ b o, s.heap.get? b = some o → h'.get? b = some o := fun b o e => hs.extBut _ _ (Nat.ne_of_lt (Heap.lt_size e)) (Heap.get?_push_of_some _ e)
 exact ⟨.ref s.heap.objs.size, _, I.laid (a := s.heap.objs.size) (o := .dK kvs) (h' := h') (t' := s.toks) keep (Nat.le_refl _) ⟨z, beq_eq_false_iff_ne.mpr (Ne.symm (Nat.ne_of_lt I.big)), vs, rel, hd'⟩, rfl, q _ I.fresh⟩
end L2
namespace Fw
open PySem PySem.Spec PyProof.Rows L2
section
variable {X : Cx} {a b c : Expr} {da db dc : D} {pos p p2 : Pos} {k : Nat}
theorem cf_dictC (hm : X.mg "dict" = none) (ha : CE X a da) (hg : Gl X "dict" := by rfl) (hs1 : starEach [a] X.env = (false, eval a X.env) :: starEach [] X.env := by rfl) (hpl : (backTo pos (starEach [] X.env)).any (·.1) = false := by rfl) :
  CF X (.Call (.Name "dict" p) [a] [] pos) (dUn fDictC da) := cf_ty1 call_dictC (by
 intro F H v t w Q s hv hw q
 cases t with
 | dct kts =>
  cases hw
  obtain ⟨a, kvs, rfl, hq, hl⟩ := hv
  exact ⟨a, kvs, rfl, hq, fun l hp => q l _ hp ⟨kvs, upd_same, hl⟩⟩
 | _ => cases hw) hm (by decide +kernel) ha hg (by decide) (by decide) hs1 hpl
theorem cf_dctC {i j : Int} {x1 x2 : Nat} {p1 p2 : Pos} : CF X (.Dict [some (.Constant (.int i) x1 p1)] [.Constant (.int j) x2 p2] pos) (dC (.dct [(.inl i, .int j)])) := by
 refine ⟨PE.imp (pe_disp (pps_cons pe_int pe_int pps_nil) rfl rfl (by simp) (by simp)) fun σ H Q ⟨F, α, e, μ, S, h⟩ => ?_, fun e μ x μ' h => ?_⟩
 ·obtain ⟨t, et, post⟩ := h
  cases et
  intro d hd
  refine ⟨upd_same, [(.inl i, .int j)], rfl, by simp, ?_⟩
  rw [upd_upd]
  exact post d _ F α (Ex.lay hd) (S.of (Same.refl _) (List.prefix_refl _) (S.st.lay hd)) hd (S.st.ext.free hd) (not_mem_of_none S.st hd) ⟨[(.inl i, .int j)], upd_same, RepD.cons' (Rep.int' j) RepD.nil'⟩
 ·cases h; exact ⟨_, rfl⟩
theorem getO_read {i : Int} (σ : L2.St) (H : Hp) (Q : VK) (h : tD X (dGetO da db i) σ H Q) : tDGet2 (tD X da) (tD X db) (tC (.int i)) σ H Q := by
 obtain ⟨F, α, e, μ, S, h⟩ := h
 refine ⟨F, α, e, μ, S, ?_⟩
 refine (R.wp_bind h).mono (fun x μ1 h v H1 F1 α1 x1 S1 o1 => ?_) fun _ _ h => h
 obtain ⟨kt1, hk1, h⟩ := R.wp_lift (R.wp_bind h)
 obtain ⟨t1, ht1, hd1⟩ := Option.bind_eq_some_iff.mp hk1
 have n0 := now_of S1.st o1 ht1
 cases t1 with
 | dct kts1 =>
  obtain ⟨ad, kvs1, rfl, hq1, _⟩ := n0
  refine ⟨ad, rfl, .inl ⟨kvs1, .inl hq1⟩, F1, α1, e, μ1, S1, (R.wp_bind h).mono (fun y μ2 h v2 H2 F2 α2 x2 S2 o2 => ?_) fun _ _ h => h.mono x1⟩
  obtain ⟨w, h8, post⟩ := R.wp_lift h
  obtain ⟨w', h7, ew⟩ := Option.map_eq_some_iff.mp h8
  subst ew
  obtain ⟨t, ht, h6⟩ := Option.bind_eq_some_iff.mp h7
  obtain ⟨u, hu, h5⟩ := Option.bind_eq_some_iff.mp h6
  have n1 := now_of S2.st (o1.mono x2.same x2.pre) ht
  have n2 := now_of S2.st o2 hu
  obtain ⟨kts, hkt, h4⟩ := Option.bind_eq_some_iff.mp h5
  obtain ⟨kk, hk, ek0⟩ := Option.map_eq_some_iff.mp h4
  subst ek0
  cases t with
  | dct kts' =>
   cases hkt
   obtain ⟨ad2, kvs, e2, hq, rd⟩ := n1
   cases e2
   have ek := key_now n2 hk
   subst ek
   refine ⟨valV kvs kk, DGet.k hq, ?_⟩
   refine post _ H2 F2 α2 (x1.trans x2) S2 ?_
   rcases rd.val kk with ⟨g1, g2⟩ | ⟨t, v, g1, g2, g3⟩
   ·rw [g1, g2]; exact Rep.int' (K := X.K) (F := F2) i
   ·rw [g1, g2]; exact g3
  | _ => cases hkt
 | _ => cases hd1
theorem ce_getO (hr : Room k X.A) {i : Int} {x1 : Nat} {p1 apos cpos : Pos} {o e1 : Expr} (ho : CE X o da) (he : CE X e1 db) (hbase : attributeBase o "get" X.env (eval o X.env) = eval o X.env := by rfl)
  (hfew : ((backTo cpos (starEach [e1, .Constant (.int i) x1 p1] X.env)).all (fun x => !x.1) && (backToKw cpos (keywordEach [] X.env)).all (fun x => x.1.isSome) && decide (([e1, .Constant (.int i) x1 p1] : List Expr).length + ([] : List Keyword).length + (if ([] : List Keyword).isEmpty then 0 else 1) < 30)) = true := by rfl)
  (hline : (apos.endLine == cpos.line) = true := by rfl) (htr : backTo cpos (starEach [e1, .Constant (.int i) x1 p1] X.env) = [(false, eval e1 X.env), (false, eval (.Constant (.int i) x1 p1) X.env)] := by rfl) :
  CE X (.Call (.Attribute o "get" apos) [e1, .Constant (.int i) x1 p1] [] cpos) (dGetO da db i) :=
 PE.imp (pe_dget2 (units_of hr) ho he pe_int ⟨hbase, hfew, hline, htr⟩) getO_read
theorem ce_blt2 {id : String} {x : Str} {r : List V → Hp → VK → Prop} {g : T → T → Option T} (hc : CallR X (.builtin id) r) (hs : CallSem2 X.K r g) (hm : X.mg x = none) (hv : bootBuiltins x = some (.builtin id)) (ha : CE X a da) (hb : CE X b db) (hg : Gl X x := by rfl) (hn : x ≠ "__name__" := by decide)
  (hdb : (x == ("__debug__" : Str)) = false := by decide) (hs1 : starEach [a, b] X.env = (false, eval a X.env) :: starEach [b] X.env := by rfl) (hs2 : starEach [b] X.env = (false, eval b X.env) :: starEach [] X.env := by rfl) (hpl : (backTo pos (starEach [b] X.env)).any (·.1) = false := by rfl) : CE X (.Call (.Name x p) [a, b] [] pos) (dBin g da db) :=
 PE.imp (pe_callB hc hg hm hv (ca_cons ha (ca_cons hb ca_nil hs2) hs1) hn hdb hs1 hpl) (call2 hs)
theorem ce_min (hm : X.mg "min" = none) (ha : CE X a da) (hb : CE X b db) (hc : X.calm = true := by rfl) (hg : Gl X "min" := by rfl) (hs1 : starEach [a, b] X.env = (false, eval a X.env) :: starEach [b] X.env := by rfl) (hs2 : starEach [b] X.env = (false, eval b X.env) :: starEach [] X.env := by rfl) (hpl : (backTo pos (starEach [b] X.env)).any (·.1) = false := by rfl) :
  CE X (.Call (.Name "min" p) [a, b] [] pos) (dBin fMin da db) := ce_blt2 (call_min2 hc) (by
 intro F H v u t t' w Q s hv hu hw q
 cases t <;> cases t' <;> first | cases hw | skip
 exact ⟨_, _, by rw [hv.int, hu.int], q _ H F Grow.refl (Rep.int' _)⟩) hm (by decide +kernel) ha hb hg (by decide) (by decide) hs1 hs2 hpl
theorem ce_max (hm : X.mg "max" = none) (ha : CE X a da) (hb : CE X b db) (hc : X.calm = true := by rfl) (hg : Gl X "max" := by rfl) (hs1 : starEach [a, b] X.env = (false, eval a X.env) :: starEach [b] X.env := by rfl) (hs2 : starEach [b] X.env = (false, eval b X.env) :: starEach [] X.env := by rfl) (hpl : (backTo pos (starEach [b] X.env)).any (·.1) = false := by rfl) :
  CE X (.Call (.Name "max" p) [a, b] [] pos) (dBin fMax da db) := ce_blt2 (call_max2 hc) (by
 intro F H v u t t' w Q s hv hu hw q
 cases t <;> cases t' <;> first | cases hw | skip
 exact ⟨_, _, by rw [hv.int, hu.int], q _ H F Grow.refl (Rep.int' _)⟩) hm (by decide +kernel) ha hb hg (by decide) (by decide) hs1 hs2 hpl
end
end Fw
namespace L2
open PySem PySem.Spec PyProof.Rows
section
variable {prog : Program} {w : World} {A : Around} {E : Value → Shared → Prop} {s : Shared}
noncomputable abbrev IsZipO (h : Heap) (z TI TO a : Addr) (f : Bool) : Prop := h.get? z = some { cls := .type "zip", dict := none, data := .fields #[rawInt a, .bool f, .bool false, .ref TI, .ref TO], slots := #[] }
structure ZOA (z TI i1 i2 l1 l2 : Addr) : Prop where
 TIz : TI ≠ z
 i1z : i1 ≠ z
 i2z : i2 ≠ z
 i12 : i1 ≠ i2
 l1z : l1 ≠ z
 l1i1 : l1 ≠ i1
 l2z : l2 ≠ z
 l2i1 : l2 ≠ i1
end
section
variable {X : Cx} {pins : List (Addr × Obj)} {σ : L2.St} {H : Hp} {s : Shared}
structure ZO (k1 k2 : Bool) (z TI TO i1 i2 l1 l2 : Addr) (i : Nat) (H : Hp) (h : Heap) : Prop where
 zz : IsZip h z TI TO .none ∨ ∃ a f ws, H a = some (.tup ws) ∧ IsZipO h z TI TO a f
 ti : IsPair h TI (.ref i1) (.ref i2)
 to : ∃ a b, IsPair h TO a b
 one : KIt k1 h i1 l1 i
 two : KIt k2 h i2 l2 i
theorem ZO.keep {k1 k2 : Bool} {z TI TO i1 i2 l1 l2 : Addr} {i : Nat} {h h' : Heap} (st : ZO k1 k2 z TI TO i1 i2 l1 l2 i H h) (k : ∀ b ∈ [z, TI, TO, i1, i2], ∀ o, h.get? b = some o → h'.get? b = some o) : ZO k1 k2 z TI TO i1 i2 l1 l2 i H h' := by
 obtain ⟨a, b, hto⟩ := st.to
 refine ⟨?_, k TI (.tail _ (.head _)) _ st.ti, ⟨a, b, k TO (.tail _ (.tail _ (.head _))) _ hto⟩, st.one.at fun o e => k i1 (.tail _ (.tail _ (.tail _ (.head _)))) o e, st.two.at fun o e => k i2 (.tail _ (.tail _ (.tail _ (.tail _ (.head _))))) o e⟩
 rcases st.zz with hz | ⟨c, f, ws, hc, hz⟩
 ·exact .inl (k z (.head _) _ hz)
 ·exact .inr ⟨c, f, ws, hc, k z (.head _) _ hz⟩
theorem ZO.apart {k1 k2 : Bool} {z TI TO i1 i2 l1 l2 : Addr} {i : Nat} {xs ys : List V} (d1 : TI ≠ TO) (d2 : i1 ≠ i2) (I : Inv X pins σ H s) (hf : ∀ b ∈ [z, TI, TO, i1, i2], FpOk X pins H b) (st : ZO k1 k2 z TI TO i1 i2 l1 l2 i H s.heap) (h1 : KSqV X.K k1 H l1 xs) (h2 : KSqV X.K k2 H l2 ys) :
  ZipApart z TI TO i1 i2 l1 l2 ∧ ZOA z TI i1 i2 l1 l2 := by
 obtain ⟨a, b, hto⟩ := st.to
 obtain ⟨o1, e1, q1⟩ := st.one.ob
 obtain ⟨o2, e2, q2⟩ := st.two.ob
 obtain ⟨oz, vz, ez, qz, sz⟩ : ∃ (oz : Obj) (vz : Array Value), s.heap.get? z = some oz ∧ oz.data = .fields vz ∧ vz.size = 5 := by
  rcases st.zz with hz | ⟨c, f, ws, hc, hz⟩
  ·exact ⟨_, _, hz, rfl, rfl⟩
  ·exact ⟨_, _, hz, rfl, rfl⟩
 have neP : ∀ {c d : Addr} {o : Obj} {u v : Value} {vs : Array Value}, IsPair s.heap c u v → s.heap.get? d = some o → o.data = .fields vs → c ≠ d := fun {c d o u v vs} hp ho hd e => by
  subst e
  have hp : s.heap.get? c = some { cls := .type "tuple", data := .seq #[u, v] } := hp
  rw [hp] at ho; cases ho; cases hd
 have neZ : ∀ {d : Addr} {l : Addr} {o : Obj} {n : Nat}, s.heap.get? d = some o → o.data = .fields #[.ref l, .int n 0] → d ≠ z := fun {d l o n} ho hd e => by
  subst e
  rw [ez] at ho; cases ho
  rw [qz] at hd
  have : vz = #[.ref l, .int n 0] := by injection hd
  rw [this] at sz
  exact absurd sz (by simp)
 have w : ∀ c ∈ [z, TI, TO, i1, i2], l1 ≠ c ∧ l2 ≠ c := fun c hc => ⟨ksqv_own I h1 (hf c hc), ksqv_own I h2 (hf c hc)⟩
 have D : ZipApart z TI TO i1 i2 l1 l2 := { TIz := neP st.ti ez qz, TOz := neP hto ez qz, i1z := neZ e1 q1, i2z := neZ e2 q2, TITO := d1, TIi1 := neP st.ti e1 q1, TIi2 := neP st.ti e2 q2, TOi1 := neP hto e1 q1, TOi2 := neP hto e2 q2, i12 := d2, l1z := (w z (.head _)).1, l1TO := (w TO (.tail _ (.tail _ (.head _)))).1, l1i1 := (w i1 (.tail _ (.tail _ (.tail _ (.head _))))).1, l1i2 := (w i2 (.tail _ (.tail _ (.tail _ (.tail _ (.head _)))))).1, l2z := (w z (.head _)).2, l2TO := (w TO (.tail _ (.tail _ (.head _)))).2, l2i1 := (w i1 (.tail _ (.tail _ (.tail _ (.head _))))).2, l2i2 := (w i2 (.tail _ (.tail _ (.tail _ (.tail _ (.head _)))))).2 }
 exact ⟨D, ⟨D.TIz, D.i1z, D.i2z, D.i12, D.l1z, D.l1i1, D.l2z, D.l2i1⟩⟩
end
end L2
namespace L2
open PySem PySem.Spec PyProof.Rows
end L2
namespace Fw
open PySem PySem.Spec PyProof.Rows L2
end Fw
namespace L2
open PySem PySem.Spec PyProof.Rows
end L2
namespace Fw
open PySem PySem.Spec PyProof.Rows L2
end Fw
namespace Fw.k22
open PySem Fw
noncomputable def b_is_whole : DS :=
 (sRet (dAnd (dIs .int (dVar 0)) (dNot (dIs .bool (dVar 0)))))
noncomputable def fV_is_whole : FN := fnV 1 b_is_whole
noncomputable def b_is_prime : DS :=
 (sSeq (sIf (dOr (dNot (dCall (cal fV_is_whole) [(dVar 0)])) (dOr (dBin fLt (dVar 0) (dC (.int 2))) (dBin fGt (dVar 0) (dC (.int 97))))) (sRet (dC (.bl false))) sNil)
 (sRet (dUn fAll (dComp (iRange2 (dC (.int 2)) (dVar 0)) [none, some 0] (bName 0) (dC (.bl true)) (dBin fNe (dBin fMod (dVar 1) (dVar 0)) (dC (.int 0)))))))
noncomputable def fV_is_prime : FN := fnV 1 b_is_prime
noncomputable def b_is_hand : DS :=
 (sRet (dBin fEq (dIdx (dVar 0) (dC (.int 0))) (dC (.str "hand"))))
noncomputable def fV_is_hand : FN := fnV 1 b_is_hand
noncomputable def b_is_from_to : DS :=
 (sRet (dAnd (dCall (cal fV_is_whole) [(dVar 0)]) (dChain fLe fLe (dVar 1) (dVar 0) (dVar 2))))
noncomputable def fV_is_from_to : FN := fnV 3 b_is_from_to
noncomputable def b_is_tuple_of : DS :=
 (sRet (dAnd (dIs .tuple (dVar 0)) (dBin fEq (dLen (dVar 0)) (dVar 1))))
noncomputable def fV_is_tuple_of : FN := fnV 2 b_is_tuple_of
noncomputable def b_is_line : DS :=
 (sRet (dAnd (dCall (cal fV_is_tuple_of) [(dVar 0), (dVar 2)]) (dUn fAll (dComp (iSeq (dVar 0)) [none, some 1] (bName 0) (dC (.bl true)) (dCall (cal fV_is_from_to) [(dVar 0), (dC (.int 0)), (dBin fSub (dVar 1) (dC (.int 1)))])))))
noncomputable def fV_is_line : FN := fnV 3 b_is_line
noncomputable def b_is_row : DS :=
 (sRet (dAnd (dCall (cal fV_is_tuple_of) [(dVar 0), (dC (.int 2))]) (dAnd (dCall (cal fV_is_from_to) [(dIdx (dVar 0) (dC (.int 0))), (dC (.int 0)), (dC (.int 9))]) (dCall (cal fV_is_line) [(dIdx (dVar 0) (dC (.int 1))), (dVar 1), (dVar 2)]))))
noncomputable def fV_is_row : FN := fnV 3 b_is_row
noncomputable def b_is_table : DS :=
 (sSeq (sIf (dNot (dCall (cal fV_is_tuple_of) [(dVar 0), (dC (.int 3))])) (sRet (dC (.bl false))) sNil)
 (sSeq (sSet 1 (dIdx (dVar 0) (dC (.int 0))))
 (sSeq (sSet 2 (dIdx (dVar 0) (dC (.int 1))))
 (sSeq (sSet 3 (dIdx (dVar 0) (dC (.int 2))))
 (sSeq (sIf (dOr (dNot (dCall (cal fV_is_prime) [(dVar 1)])) (dNot (dCall (cal fV_is_from_to) [(dVar 2), (dC (.int 1)), (dC (.int 12))]))) (sRet (dC (.bl false))) sNil)
 (sSeq (sIf (dOr (dNot (dIs .tuple (dVar 3))) (dBin fGt (dLen (dVar 3)) (dC (.int 24)))) (sRet (dC (.bl false))) sNil)
 (sRet (dUn fAll (dComp (iSeq (dVar 3)) [none, some 1, some 2] (bName 0) (dC (.bl true)) (dCall (cal fV_is_row) [(dVar 0), (dVar 1), (dVar 2)]))))))))))
noncomputable def fV_is_table : FN := fnV 4 b_is_table
noncomputable def b_own_places : DS :=
 (sRet (dBin fMax (dBin fSub (dIdx (dVar 0) (dC (.int 1))) (dC (.int 1))) (dC (.int 0))))
noncomputable def fV_own_places : FN := fnV 1 b_own_places
noncomputable def b_places_taken (self_places_taken : FN) : DS :=
 (sSeq (sIf (dCall (cal fV_is_hand) [(dVar 0)]) (sRet (dC (.int 0))) sNil)
 (sRet (dBin fAdd (dCall (cal fV_own_places) [(dVar 0)]) (dUn fSum (dComp (iSeq (dIdx (dVar 0) (dC (.int 2)))) [none] (bName 0) (dC (.bl true)) (dCall (cal self_places_taken) [(dVar 0)]))))))
noncomputable def fV_places_taken : Nat → FN
 | 0 => fun _ _ => .bad
 | n + 1 => fnV 1 (b_places_taken (fV_places_taken n))
noncomputable def b_is_crowded (self_is_crowded : FN) : DS :=
 (sSeq (sIf (dCall (cal fV_is_hand) [(dVar 1)]) (sRet (dC (.bl false))) sNil)
 (sSeq (sIf (dAnd (dBin fGt (dIdx (dVar 1) (dC (.int 1))) (dC (.int 1))) (dBin fGe (dLen (dIdx (dVar 1) (dC (.int 2)))) (dVar 0))) (sRet (dC (.bl true))) sNil)
 (sRet (dUn fAny (dComp (iSeq (dIdx (dVar 1) (dC (.int 2)))) [none, some 0] (bName 0) (dC (.bl true)) (dCall (cal self_is_crowded) [(dVar 1), (dVar 0)]))))))
noncomputable def fV_is_crowded : Nat → FN
 | 0 => fun _ _ => .bad
 | n + 1 => fnV 2 (b_is_crowded (fV_is_crowded n))
noncomputable def b_with_powers : DS :=
 (sSeq (sSet 5 (dCell (dUn fList (dVar 1))))
 (sSeq (sSet 6 (dC (.int 1)))
 (sSeq (sFor (iRange2 (dVar 2) (dBin fAdd (dVar 2) (dVar 3))) (bName 7) (sSeq (sSet 6 (dBin fMod (dBin fMulA (dVar 6) (dVar 4)) (dVar 0)))
 (sSetItem 5 (dVar 7) (dVar 6))))
 (sRet (dVar 5)))))
noncomputable def fV_with_powers : FN := fnV 8 b_with_powers
noncomputable def b_rows_made (self_rows_made : FN) : DS :=
 (sSeq (sIf (dCall (cal fV_is_hand) [(dVar 1)]) (sRet (dLst [(dTup [(dIdx (dVar 1) (dC (.int 1))), (dUn fTuple (dVar 2))])])) sNil)
 (sSeq (sSet 4 (dCall (cal fV_own_places) [(dVar 1)]))
 (sSeq (sSet 5 (dCell (dLst [])))
 (sSeq (sSet 6 (dBin fAdd (dVar 3) (dVar 4)))
 (sSeq (sFor (iEnum1 (dIdx (dVar 1) (dC (.int 2)))) (bTup [7, 8]) (sSeq (sExtend (dVar 5) (dCall (cal self_rows_made) [(dVar 0), (dVar 8), (dCall (cal fV_with_powers) [(dVar 0), (dVar 2), (dVar 3), (dVar 4), (dVar 7)]), (dVar 6)]))
 (sSet 6 (dBin fAdd (dVar 6) (dCall (cal (fV_places_taken 8)) [(dVar 8)])))))
 (sRet (dVar 5)))))))
noncomputable def fV_rows_made : Nat → FN
 | 0 => fun _ _ => .bad
 | n + 1 => fnV 9 (b_rows_made (fV_rows_made n))
noncomputable def b_table_of : DS :=
 (sSeq (sSet 2 (dBin fAdd (dC (.int 1)) (dCall (cal (fV_places_taken 8)) [(dVar 1)])))
 (sSeq (sIf (dBin fGt (dVar 2) (dC (.int 12))) sBad sNil)
 (sSeq (sIf (dCall (cal (fV_is_crowded 8)) [(dVar 0), (dVar 1)]) sBad sNil)
 (sRet (dTup [(dVar 0), (dVar 2), (dUn fTuple (dCall (cal (fV_rows_made 8)) [(dVar 0), (dVar 1), (dBin fAdd (dLst [(dC (.int 1))]) (dRep fRep [(dC (.int 0))] (dBin fSub (dVar 2) (dC (.int 1))))), (dC (.int 1))]))])))))
noncomputable def fV_table_of : FN := fnV 3 b_table_of
noncomputable def bX_table_of : DS :=
 (sSeq (sSet 2 (dBin fAdd (dC (.int 1)) (dCall (cal (fV_places_taken 8)) [(dVar 1)])))
 (sSeq (sIf (dBin fGt (dVar 2) (dC (.int 12))) (sRaise "TooMany") sNil)
 (sSeq (sIf (dCall (cal (fV_is_crowded 8)) [(dVar 0), (dVar 1)]) (sRaise "TooMany") sNil)
 (sCalm (sRet (dTup [(dVar 0), (dVar 2), (dUn fTuple (dCall (cal (fV_rows_made 8)) [(dVar 0), (dVar 1), (dBin fAdd (dLst [(dC (.int 1))]) (dRep fRep [(dC (.int 0))] (dBin fSub (dVar 2) (dC (.int 1))))), (dC (.int 1))]))]))))))
noncomputable def fX_table_of : FN := fnV 3 bX_table_of
noncomputable def b__law_cell : DS :=
 (sSeq (sIf (dBin fLt (dVar 1) (dLen (dVar 0))) (sRet (dIdx (dVar 0) (dVar 1))) sNil)
 (sSeq (sSet 2 (dBin fAdd (dBin fMulA (dVar 1) (dC (.int 7919))) (dC (.int 11))))
 (sSeq (sIf (dBin fGt (dLen (dVar 0)) (dC (.int 0))) (sSet 2 (dBin fAdd (dVar 2) (dBin fMulA (dBin fMod (dIdx (dVar 0) (dBin fMod (dBin fAdd (dBin fMulA (dC (.int 5)) (dVar 1)) (dC (.int 2))) (dLen (dVar 0)))) (dC (.int 2147483629))) (dC (.int 69621))))) sNil)
 (sSeq (sSet 2 (dBin fMod (dBin fMulA (dVar 2) (dVar 2)) (dC (.int 2147483647))))
 (sRet (dBin fMod (dBin fMulA (dVar 2) (dVar 2)) (dC (.int 998244353))))))))
noncomputable def fV__law_cell : FN := fnV 3 b__law_cell
noncomputable def b__law_p : DS :=
 (sSeq (sIf (dBin fEq (dBin fMod (dBin fDiv (dVar 0) (dC (.int 6))) (dC (.int 8))) (dC (.int 5))) (sRet (dIdx (dLst [(dC (.int 17)), (dC (.int 31)), (dC (.int 61)), (dC (.int 97))]) (dBin fMod (dBin fDiv (dVar 0) (dC (.int 48))) (dC (.int 4))))) sNil)
 (sRet (dIdx (dLst [(dC (.int 2)), (dC (.int 3)), (dC (.int 5)), (dC (.int 7)), (dC (.int 11)), (dC (.int 13))]) (dBin fMod (dVar 0) (dC (.int 6))))))
noncomputable def fV__law_p : FN := fnV 1 b__law_p
noncomputable def b__law_rule (self__law_rule : FN) : DS :=
 (sSeq (sSet 3 (dCall (cal fV__law_cell) [(dVar 0), (dBin fAdd (dC (.int 1)) (dIdx (dVar 1) (dC (.int 0))))]))
 (sSeq (sSetItem 1 (dC (.int 0)) (dBin fAdd (dIdx (dVar 1) (dC (.int 0))) (dC (.int 1))))
 (sSeq (sIf (dOr (dBin fEq (dVar 2) (dC (.int 4))) (dOr (dBin fGt (dIdx (dVar 1) (dC (.int 1))) (dC (.int 9))) (dOr (dAnd (dBin fGt (dVar 2) (dC (.int 0))) (dBin fLt (dBin fMod (dVar 3) (dC (.int 5))) (dC (.int 3)))) (dAnd (dBin fEq (dVar 2) (dC (.int 0))) (dBin fEq (dBin fMod (dVar 3) (dC (.int 16))) (dC (.int 7))))))) (sSeq (sSetItem 1 (dC (.int 1)) (dBin fAdd (dIdx (dVar 1) (dC (.int 1))) (dC (.int 1))))
 (sRet (dTup [(dC (.str "hand")), (dBin fMod (dBin fDiv (dVar 3) (dC (.int 5))) (dIdx (dLst [(dC (.int 10)), (dC (.int 4))]) (dBin fMod (dBin fDiv (dVar 3) (dC (.int 50))) (dC (.int 2)))))]))) sNil)
 (sSeq (sSet 4 (dBin fAdd (dC (.int 1)) (dBin fMod (dBin fDiv (dVar 3) (dC (.int 5))) (dIdx (dLst [(dC (.int 3)), (dC (.int 5))]) (dUn fInt (dBin fEq (dVar 2) (dC (.int 0))))))))
 (sSeq (sSet 5 (dBin fAdd (dC (.int 1)) (dBin fMod (dBin fDiv (dVar 3) (dC (.int 75))) (dVar 4))))
 (sSeq (sSet 6 (dCell (dLst [])))
 (sSeq (sFor (iRange1 (dVar 4)) (bName 7) (sIf (dBin fLt (dIdx (dVar 1) (dC (.int 1))) (dC (.int 14))) (sAppend (dVar 6) (dCall (cal self__law_rule) [(dVar 0), (dVar 1), (dBin fAdd (dVar 2) (dC (.int 1)))])) sNil))
 (sSeq (sIf (dBin fEq (dVar 6) (dLst [])) (sSeq (sSetItem 1 (dC (.int 1)) (dBin fAdd (dIdx (dVar 1) (dC (.int 1))) (dC (.int 1))))
 (sSet 6 (dCell (dLst [(dTup [(dC (.str "hand")), (dBin fMod (dBin fDiv (dVar 3) (dC (.int 5))) (dC (.int 10)))])])))) sNil)
 (sRet (dTup [(dC (.str "some")), (dBin fMin (dVar 5) (dLen (dVar 6))), (dUn fTuple (dVar 6))]))))))))))
noncomputable def fV__law_rule : Nat → FN
 | 0 => fun _ _ => .bad
 | n + 1 => fnV 8 (b__law_rule (fV__law_rule n))
noncomputable def b__law_laid (self__law_laid : FN) : DS :=
 (sSeq (sIf (dBin fEq (dIdx (dVar 1) (dC (.int 0))) (dC (.str "hand"))) (sSeq (sAppend (dVar 4) (dTup [(dIdx (dVar 1) (dC (.int 1))), (dVar 2)]))
 (sRet (dC (.bl true)))) sNil)
 (sSeq (sUnp [5, 6, 7] (dVar 1))
 (sSeq (sSet 8 (dIdx (dVar 3) (dC (.int 0))))
 (sSeq (sSetItem 3 (dC (.int 0)) (dBin fSub (dBin fAdd (dVar 8) (dVar 6)) (dC (.int 1))))
 (sSeq (sSet 9 (dOr (dBin fEq (dVar 6) (dC (.int 1))) (dBin fLt (dLen (dVar 7)) (dVar 0))))
 (sSeq (sFor (iRange1 (dLen (dVar 7))) (bName 10) (sSeq (sSet 11 (dCell (dUn fDictC (dVar 2))))
 (sSeq (sSet 12 (dC (.int 1)))
 (sSeq (sFor (iRange2 (dVar 8) (dBin fSub (dBin fAdd (dVar 8) (dVar 6)) (dC (.int 1)))) (bName 13) (sSeq (sSet 12 (dBin fMod (dBin fMulA (dVar 12) (dBin fAdd (dVar 10) (dC (.int 1)))) (dVar 0)))
 (sPutD 11 (dVar 13) (dVar 12))))
 (sSet 9 (dAnd (dCall (cal self__law_laid) [(dVar 0), (dIdx (dVar 7) (dVar 10)), (dVar 11), (dVar 3), (dVar 4)]) (dVar 9)))))))
 (sRet (dVar 9))))))))
noncomputable def fV__law_laid : Nat → FN
 | 0 => fun _ _ => .bad
 | n + 1 => fnV 14 (b__law_laid (fV__law_laid n))
noncomputable def b__law_due : DS :=
 (sSeq (sSet 2 (dCell (dLst [(dC (.int 1))])))
 (sSeq (sSet 3 (dCell (dLst [])))
 (sSeq (sSet 4 (dCall (cal (fV__law_laid 8)) [(dVar 0), (dVar 1), (dC (.dct [(.inl 0, .int 1)])), (dVar 2), (dVar 3)]))
 (sSeq (sIf (dOr (dNot (dVar 4)) (dBin fGt (dIdx (dVar 2) (dC (.int 0))) (dC (.int 12)))) (sRet (dC (.non))) sNil)
 (sSeq (sSet 5 (dCell (dLst [])))
 (sSeq (sFor (iSeq (dVar 3)) (bTup [6, 7]) (sAppend (dVar 5) (dTup [(dVar 6), (dUn fTuple (dComp (iRange1 (dIdx (dVar 2) (dC (.int 0)))) [none, some 7] (bName 0) (dC (.bl true)) (dGetO (dVar 1) (dVar 0) 0)))])))
 (sRet (dTup [(dVar 0), (dIdx (dVar 2) (dC (.int 0))), (dUn fTuple (dVar 5))]))))))))
noncomputable def fV__law_due : FN := fnV 8 b__law_due
noncomputable def b__law_told : DS :=
 (sSeq (sSet 2 (dC (.non)))
 (sSeq (sTry (sSet 2 (dCall fX_table_of [(dVar 0), (dVar 1)])) (fun n => if n = "TooMany" then (sAs 3 "TooMany" (sSet 2 (dIdx (dLst [(dC (.str "another")), (dC (.non))]) (dUn fInt (dAnd (dIsG (fun n => if n = "TooMany" then some true else none) (dVar 3)) (dIsG (fun n => if n = "TooMany" then some true else none) (dVar 3))))))) else sBad))
 (sRet (dVar 2))))
noncomputable def fV__law_told : FN := fnV 4 b__law_told
noncomputable def b_law : DS :=
 (sSeq (sSet 1 (dCall (cal fV__law_p) [(dCall (cal fV__law_cell) [(dVar 0), (dC (.int 0))])]))
 (sSeq (sSet 2 (dCall (cal (fV__law_rule 8)) [(dVar 0), (dCell (dLst [(dC (.int 0)), (dC (.int 0))])), (dC (.int 0))]))
 (sSeq (sSet 3 (dCall (cal fV__law_due) [(dVar 1), (dVar 2)]))
 (sSeq (sSet 4 (dCall (cal fV__law_told) [(dVar 1), (dVar 2)]))
 (sSeq (sIf (dOr (dUn isNon (dVar 3)) (dOr (dUn isNon (dVar 4)) (dBin fEq (dVar 4) (dC (.str "another"))))) (sRet (dAnd (dUn isNon (dVar 3)) (dUn isNon (dVar 4)))) sNil)
 (sRet (dAnd (dBin fEq (dVar 4) (dVar 3)) (dUn (isBl true) (dCall (cal fV_is_table) [(dVar 4)])))))))))
noncomputable def law_s0 : DS := (sSet 1 (dCall (cal fV__law_p) [(dCall (cal fV__law_cell) [(dVar 0), (dC (.int 0))])]))
noncomputable def law_s1 : DS := (sSet 2 (dCall (cal (fV__law_rule 8)) [(dVar 0), (dCell (dLst [(dC (.int 0)), (dC (.int 0))])), (dC (.int 0))]))
noncomputable def law_s2 : DS := (sSet 3 (dCall (cal fV__law_due) [(dVar 1), (dVar 2)]))
noncomputable def law_s3 : DS := (sSet 4 (dCall (cal fV__law_told) [(dVar 1), (dVar 2)]))
noncomputable def law_s4 : DS := (sIf (dOr (dUn isNon (dVar 3)) (dOr (dUn isNon (dVar 4)) (dBin fEq (dVar 4) (dC (.str "another"))))) (sRet (dAnd (dUn isNon (dVar 3)) (dUn isNon (dVar 4)))) sNil)
noncomputable def law_s5 : DS := (sRet (dAnd (dBin fEq (dVar 4) (dVar 3)) (dUn (isBl true) (dCall (cal fV_is_table) [(dVar 4)]))))
noncomputable def law_t5 : DS := law_s5
noncomputable def law_t4 : DS := sSeq law_s4 law_t5
noncomputable def law_t3 : DS := sSeq law_s3 law_t4
noncomputable def law_t2 : DS := sSeq law_s2 law_t3
noncomputable def law_t1 : DS := sSeq law_s1 law_t2
noncomputable def law_t0 : DS := sSeq law_s0 law_t1
theorem law_is : b_law = law_t0 := rfl
theorem law_t0_is (e : Slots) (μ : Store) : law_t0 e μ = (law_s0 e μ).seq law_t1 := rfl
theorem law_t1_is (e : Slots) (μ : Store) : law_t1 e μ = (law_s1 e μ).seq law_t2 := rfl
theorem law_t2_is (e : Slots) (μ : Store) : law_t2 e μ = (law_s2 e μ).seq law_t3 := rfl
theorem law_t3_is (e : Slots) (μ : Store) : law_t3 e μ = (law_s3 e μ).seq law_t4 := rfl
theorem law_t4_is (e : Slots) (μ : Store) : law_t4 e μ = (law_s4 e μ).seq law_t5 := rfl
theorem law_t5_is (e : Slots) (μ : Store) : law_t5 e μ = law_s5 e μ := rfl
noncomputable def fV_law : FN := fnV 5 b_law
end Fw.k22
section
set_option maxHeartbeats 4000000
namespace Fw.k22
open PySem L2 Fw
seal Fw.CE Fw.CT Fw.CA Fw.CS Fw.CSs Fw.CI Fw.CB Fw.CF Fw.CW Fw.CO L2.PIfs
noncomputable def top (i : Nat) : Stmt := PySem.Challenge.pw_fewopen_k22_tables_made.main.body.getD i (.Pass ⟨0, 0, 0, 0⟩)
noncomputable abbrev s_is_whole : Stmt := top 12
noncomputable abbrev s_is_prime : Stmt := top 13
noncomputable abbrev s_is_hand : Stmt := top 15
noncomputable abbrev s_is_from_to : Stmt := top 20
noncomputable abbrev s_is_tuple_of : Stmt := top 21
noncomputable abbrev s_is_line : Stmt := top 22
noncomputable abbrev s_is_row : Stmt := top 23
noncomputable abbrev s_is_table : Stmt := top 24
noncomputable abbrev s_own_places : Stmt := top 25
noncomputable abbrev s_places_taken : Stmt := top 26
noncomputable abbrev s_is_crowded : Stmt := top 27
noncomputable abbrev s_with_powers : Stmt := top 28
noncomputable abbrev s_rows_made : Stmt := top 29
noncomputable abbrev s_table_of : Stmt := top 30
noncomputable abbrev s__law_cell : Stmt := top 32
noncomputable abbrev s__law_p : Stmt := top 33
noncomputable abbrev s__law_rule : Stmt := top 34
noncomputable abbrev s__law_laid : Stmt := top 35
noncomputable abbrev s__law_due : Stmt := top 36
noncomputable abbrev s__law_told : Stmt := top 37
noncomputable abbrev s_law : Stmt := top 38
structure Tx (K : PySem.W.Frag) (mg : Str → Option Value) : Prop where
 n_ValueError : mg "ValueError" = none
 n_all : mg "all" = none
 n_any : mg "any" = none
 n_bool : mg "bool" = none
 n_dict : mg "dict" = none
 n_enumerate : mg "enumerate" = none
 n_int : mg "int" = none
 n_isinstance : mg "isinstance" = none
 n_len : mg "len" = none
 n_list : mg "list" = none
 n_max : mg "max" = none
 n_min : mg "min" = none
 n_range : mg "range" = none
 n_sum : mg "sum" = none
 n_tuple : mg "tuple" = none
 c_GREATEST_HAND : ∃ tk, mg "GREATEST_HAND" = some (.int 9 tk)
 c_GREATEST_P : ∃ tk, mg "GREATEST_P" = some (.int 97 tk)
 c_MOST_ROWS : ∃ tk, mg "MOST_ROWS" = some (.int 24 tk)
 c_MOST_WIDE : ∃ tk, mg "MOST_WIDE" = some (.int 12 tk)
structure Ec (K : PySem.W.Frag) (mg : Str → Option Value) (e_TooMany e_NoFit e_NoName e_NoNumber e_NoRow e_NoRule e_NoText e_TooFew e_OpenError : Addr) : Prop where
 m_TooMany : mg "TooMany" = some (.ref e_TooMany)
 n_TooMany : PySem.W.nsIn K mainGlobals "TooMany" = some (some (.ref e_TooMany))
 q_TooMany : PySem.W.excIn K e_TooMany bmV "ValueError.__new__" = true
 k_TooMany : KExc K e_TooMany
 m_NoFit : mg "NoFit" = some (.ref e_NoFit)
 n_NoFit : PySem.W.nsIn K mainGlobals "NoFit" = some (some (.ref e_NoFit))
 o_NoFit : OwnK K e_NoFit
 m_NoName : mg "NoName" = some (.ref e_NoName)
 n_NoName : PySem.W.nsIn K mainGlobals "NoName" = some (some (.ref e_NoName))
 o_NoName : OwnK K e_NoName
 m_NoNumber : mg "NoNumber" = some (.ref e_NoNumber)
 n_NoNumber : PySem.W.nsIn K mainGlobals "NoNumber" = some (some (.ref e_NoNumber))
 o_NoNumber : OwnK K e_NoNumber
 m_NoRow : mg "NoRow" = some (.ref e_NoRow)
 n_NoRow : PySem.W.nsIn K mainGlobals "NoRow" = some (some (.ref e_NoRow))
 o_NoRow : OwnK K e_NoRow
 m_NoRule : mg "NoRule" = some (.ref e_NoRule)
 n_NoRule : PySem.W.nsIn K mainGlobals "NoRule" = some (some (.ref e_NoRule))
 o_NoRule : OwnK K e_NoRule
 m_NoText : mg "NoText" = some (.ref e_NoText)
 n_NoText : PySem.W.nsIn K mainGlobals "NoText" = some (some (.ref e_NoText))
 o_NoText : OwnK K e_NoText
 m_TooFew : mg "TooFew" = some (.ref e_TooFew)
 n_TooFew : PySem.W.nsIn K mainGlobals "TooFew" = some (some (.ref e_TooFew))
 o_TooFew : OwnK K e_TooFew
 m_OpenError : mg "OpenError" = some (.ref e_OpenError)
 n_OpenError : PySem.W.nsIn K mainGlobals "OpenError" = some (some (.ref e_OpenError))
 s0 : (mroK K e_TooMany).contains (.ref e_TooFew) = false
 s1 : (mroK K e_TooMany).contains (.ref e_NoText) = false
 s2 : (mroK K e_TooMany).contains (.ref e_NoRule) = false
 s3 : (mroK K e_TooMany).contains (.ref e_NoRow) = false
 s4 : (mroK K e_TooMany).contains (.ref e_NoNumber) = false
 s5 : (mroK K e_TooMany).contains (.ref e_NoName) = false
 s6 : (mroK K e_TooMany).contains (.ref e_NoFit) = false
 s7 : (mroK K e_TooMany).contains (.ref e_TooMany) = true
 s8 : PySem.W.kitOne K (.ref e_TooMany) (.ref e_OpenError) = some true
 s9 : PySem.W.kitOne K (.ref e_TooMany) (.type "ValueError") = some true
noncomputable abbrev n0 : List Str := ["small", "thing"]
noncomputable abbrev n1 : List Str := ["thing"]
noncomputable abbrev n2 : List Str := ["number", "p"]
noncomputable abbrev n3 : List Str := ["thing", "p", "width"]
noncomputable abbrev n4 : List Str := ["row", "p", "wide"]
noncomputable abbrev n5 : List Str := ["thing", "p", "wide", "rows"]
noncomputable abbrev n6 : List Str := ["inner"]
noncomputable abbrev n7 : List Str := ["rule"]
noncomputable abbrev n8 : List Str := ["inner", "p"]
noncomputable abbrev n9 : List Str := ["p", "rule"]
noncomputable abbrev n10 : List Str := ["_law_place", "_law_line"]
noncomputable abbrev n11 : List Str := ["_law_p_here", "_law_rule_here", "_law_state", "_law_rows", "_law_good", "_law_whole", "_law_hand", "_law_line"]
noncomputable abbrev n12 : List Str := ["thing", "least", "greatest"]
noncomputable abbrev n13 : List Str := ["thing", "many"]
noncomputable abbrev n14 : List Str := ["thing", "p", "wide"]
noncomputable abbrev n15 : List Str := ["some"]
noncomputable abbrev n16 : List Str := ["p", "line", "first", "many", "number", "fresh", "power", "place"]
noncomputable abbrev n17 : List Str := ["p", "line", "first", "many", "number"]
noncomputable abbrev n18 : List Str := ["p", "rule", "line", "unused", "many", "rows", "inner_unused", "number", "inner"]
noncomputable abbrev n19 : List Str := ["p", "rule", "line", "unused"]
noncomputable abbrev n20 : List Str := ["p", "rule", "wide"]
noncomputable abbrev n21 : List Str := ["_law_script", "_law_k", "_law_number"]
noncomputable abbrev n22 : List Str := ["_law_script", "_law_k"]
noncomputable abbrev n23 : List Str := ["_law_cell_here"]
noncomputable abbrev n24 : List Str := ["_law_script", "_law_state", "_law_deep", "_law_cell_here", "_law_many", "_law_k", "_law_rules", "_law_turn"]
noncomputable abbrev n25 : List Str := ["_law_script", "_law_state", "_law_deep"]
noncomputable abbrev n26 : List Str := ["_law_p_here", "_law_rule_here", "_law_line", "_law_state", "_law_rows", "_law_some", "_law_k", "_law_rules", "_law_begin", "_law_good", "_law_i", "_law_own", "_law_number", "_law_place"]
noncomputable abbrev n27 : List Str := ["_law_p_here", "_law_rule_here", "_law_line", "_law_state", "_law_rows"]
noncomputable abbrev n28 : List Str := ["_law_p_here", "_law_rule_here"]
noncomputable abbrev n29 : List Str := ["_law_p_here", "_law_rule_here", "_law_found", "e"]
noncomputable abbrev n30 : List Str := ["_law_script", "_law_p_here", "_law_rule_here", "_law_due_here", "_law_found"]
noncomputable abbrev n31 : List Str := ["_law_script"]
section
variable {P : Program} {w : World} {K : PySem.W.Frag} {mg : Str → Option Value} {base : Heap}
theorem sc_is_whole : FnScope n1 n1 (defScope s_is_whole) := ⟨rfl, rfl, rfl, by decide +kernel, rfl, by decide +kernel, by decide +kernel⟩
theorem okV_is_whole {a_is_whole : Addr} {d_is_whole : FuncData} (T : Tx K mg) {e_TooMany e_NoFit e_NoName e_NoNumber e_NoRow e_NoRule e_NoText e_TooFew e_OpenError : Addr} (Y : Ec K mg e_TooMany e_NoFit e_NoName e_NoNumber e_NoRow e_NoRule e_NoText e_TooFew e_OpenError) (g_is_whole : Gf K mg "is_whole" s_is_whole n1 a_is_whole d_is_whole) :
  FnOk P w K mg base CX0 1 a_is_whole d_is_whole n1 (spD K fV_is_whole 1) :=
 fn_ok .V g_is_whole.F sc_is_whole fun cdv A outer s H E hr => (css_one (cs_ret (ce_and (ce_is_int T.n_isinstance T.n_int (ce_var 0)) (ce_one (ce_not (ce_is_bool T.n_isinstance T.n_bool (ce_var 0)))))))
theorem sc_is_prime : FnScope n1 n1 (defScope s_is_prime) := ⟨rfl, rfl, rfl, by decide +kernel, rfl, by decide +kernel, by decide +kernel⟩
theorem okV_is_prime {a_is_prime : Addr} {d_is_prime : FuncData} (T : Tx K mg) {e_TooMany e_NoFit e_NoName e_NoNumber e_NoRow e_NoRule e_NoText e_TooFew e_OpenError : Addr} (Y : Ec K mg e_TooMany e_NoFit e_NoName e_NoNumber e_NoRow e_NoRule e_NoText e_TooFew e_OpenError) (g_is_prime : Gf K mg "is_prime" s_is_prime n1 a_is_prime d_is_prime)
  {a_is_whole : Addr} {d_is_whole : FuncData} (g_is_whole : Gf K mg "is_whole" s_is_whole n1 a_is_whole d_is_whole)
  (GV_is_whole : FnOk P w K mg base CX0 1 a_is_whole d_is_whole n1 (spD K fV_is_whole 1)) :
  FnOk P w K mg base CX0 2 a_is_prime d_is_prime n1 (spD K fV_is_prime 1) :=
 fn_ok .V g_is_prime.F sc_is_prime fun cdv A outer s H E hr => (css_cons (cs_if (CW.ct (cw_or (ct_not (ct_val (ce_call GV_is_whole (hr.mono (by decide)) g_is_whole.m g_is_whole.F.kp g_is_whole.b (ca_cons (ce_var 0) ca_nil)))) (cw_or (ct_lt (ce_var 0) ce_int) (cw_one_or (ct_gt (ce_var 0) (ce_gint T.c_GREATEST_P.choose_spec)))))) (css_one (cs_ret ce_bl)) css_nil)
 (css_one (cs_ret (ce_all hr T.n_all (CF.ce (cf_comp (N' := n0) rfl (compScope_of (defScope s_is_prime) rfl n1 rfl (by decide +kernel)) rfl (leaves_name rfl) (ci_range2 T.n_range ce_int (ce_var 0)) (fun _ _ _ _ _ => (cb_name 0 (show n0.Nodup by decide +kernel))) (fun _ _ _ _ _ => pifs_true) (fun _ _ _ _ _ => (ce_ne hr (ce_mod (ce_var 1) (ce_var 0)) ce_int))))))))
theorem sc_is_hand : FnScope n7 n7 (defScope s_is_hand) := ⟨rfl, rfl, rfl, by decide +kernel, rfl, by decide +kernel, by decide +kernel⟩
theorem okV_is_hand {a_is_hand : Addr} {d_is_hand : FuncData} (T : Tx K mg) {e_TooMany e_NoFit e_NoName e_NoNumber e_NoRow e_NoRule e_NoText e_TooFew e_OpenError : Addr} (Y : Ec K mg e_TooMany e_NoFit e_NoName e_NoNumber e_NoRow e_NoRule e_NoText e_TooFew e_OpenError) (g_is_hand : Gf K mg "is_hand" s_is_hand n7 a_is_hand d_is_hand) :
  FnOk P w K mg base CX0 1 a_is_hand d_is_hand n7 (spD K fV_is_hand 1) :=
 fn_ok .V g_is_hand.F sc_is_hand fun cdv A outer s H E hr => (css_one (cs_ret (ce_eq hr (ce_idx (ce_var 0) ce_int) ce_str)))
theorem sc_is_from_to : FnScope n12 n12 (defScope s_is_from_to) := ⟨rfl, rfl, rfl, by decide +kernel, rfl, by decide +kernel, by decide +kernel⟩
theorem okV_is_from_to {a_is_from_to : Addr} {d_is_from_to : FuncData} (T : Tx K mg) {e_TooMany e_NoFit e_NoName e_NoNumber e_NoRow e_NoRule e_NoText e_TooFew e_OpenError : Addr} (Y : Ec K mg e_TooMany e_NoFit e_NoName e_NoNumber e_NoRow e_NoRule e_NoText e_TooFew e_OpenError) (g_is_from_to : Gf K mg "is_from_to" s_is_from_to n12 a_is_from_to d_is_from_to)
  {a_is_whole : Addr} {d_is_whole : FuncData} (g_is_whole : Gf K mg "is_whole" s_is_whole n1 a_is_whole d_is_whole)
  (GV_is_whole : FnOk P w K mg base CX0 1 a_is_whole d_is_whole n1 (spD K fV_is_whole 1)) :
  FnOk P w K mg base CX0 2 a_is_from_to d_is_from_to n12 (spD K fV_is_from_to 3) :=
 fn_ok .V g_is_from_to.F sc_is_from_to fun cdv A outer s H E hr => (css_one (cs_ret (ce_and (ce_call GV_is_whole (hr.mono (by decide)) g_is_whole.m g_is_whole.F.kp g_is_whole.b (ca_cons (ce_var 0) ca_nil)) (ce_one (ce_chain_le_le (ce_var 1) (ce_var 0) (ce_var 2))))))
theorem sc_is_tuple_of : FnScope n13 n13 (defScope s_is_tuple_of) := ⟨rfl, rfl, rfl, by decide +kernel, rfl, by decide +kernel, by decide +kernel⟩
theorem okV_is_tuple_of {a_is_tuple_of : Addr} {d_is_tuple_of : FuncData} (T : Tx K mg) {e_TooMany e_NoFit e_NoName e_NoNumber e_NoRow e_NoRule e_NoText e_TooFew e_OpenError : Addr} (Y : Ec K mg e_TooMany e_NoFit e_NoName e_NoNumber e_NoRow e_NoRule e_NoText e_TooFew e_OpenError) (g_is_tuple_of : Gf K mg "is_tuple_of" s_is_tuple_of n13 a_is_tuple_of d_is_tuple_of) :
  FnOk P w K mg base CX0 1 a_is_tuple_of d_is_tuple_of n13 (spD K fV_is_tuple_of 2) :=
 fn_ok .V g_is_tuple_of.F sc_is_tuple_of fun cdv A outer s H E hr => (css_one (cs_ret (ce_and (ce_is_tuple T.n_isinstance T.n_tuple (ce_var 0)) (ce_one (ce_eq hr (ce_len T.n_len (ce_var 0)) (ce_var 1))))))
theorem sc_is_line : FnScope n3 n3 (defScope s_is_line) := ⟨rfl, rfl, rfl, by decide +kernel, rfl, by decide +kernel, by decide +kernel⟩
theorem okV_is_line {a_is_line : Addr} {d_is_line : FuncData} (T : Tx K mg) {e_TooMany e_NoFit e_NoName e_NoNumber e_NoRow e_NoRule e_NoText e_TooFew e_OpenError : Addr} (Y : Ec K mg e_TooMany e_NoFit e_NoName e_NoNumber e_NoRow e_NoRule e_NoText e_TooFew e_OpenError) (g_is_line : Gf K mg "is_line" s_is_line n3 a_is_line d_is_line)
  {a_is_tuple_of : Addr} {d_is_tuple_of : FuncData} (g_is_tuple_of : Gf K mg "is_tuple_of" s_is_tuple_of n13 a_is_tuple_of d_is_tuple_of)
  (GV_is_tuple_of : FnOk P w K mg base CX0 1 a_is_tuple_of d_is_tuple_of n13 (spD K fV_is_tuple_of 2))
  {a_is_from_to : Addr} {d_is_from_to : FuncData} (g_is_from_to : Gf K mg "is_from_to" s_is_from_to n12 a_is_from_to d_is_from_to)
  (GV_is_from_to : FnOk P w K mg base CX0 2 a_is_from_to d_is_from_to n12 (spD K fV_is_from_to 3)) :
  FnOk P w K mg base CX0 3 a_is_line d_is_line n3 (spD K fV_is_line 3) :=
 fn_ok .V g_is_line.F sc_is_line fun cdv A outer s H E hr => (css_one (cs_ret (ce_and (ce_call GV_is_tuple_of (hr.mono (by decide)) g_is_tuple_of.m g_is_tuple_of.F.kp g_is_tuple_of.b (ca_cons (ce_var 0) (ca_cons (ce_var 2) ca_nil))) (ce_one (ce_all hr T.n_all (CF.ce (cf_comp (N' := n2) rfl (compScope_of (defScope s_is_line) rfl n3 rfl (by decide +kernel)) rfl (leaves_name rfl) (ci_seq (ce_var 0)) (fun _ _ _ _ _ => (cb_name 0 (show n2.Nodup by decide +kernel))) (fun _ _ _ _ _ => pifs_true) (fun _ _ _ _ _ => (ce_call GV_is_from_to (hr.mono (by decide)) g_is_from_to.m g_is_from_to.F.kp g_is_from_to.b (ca_cons (ce_var 0) (ca_cons ce_int (ca_cons (ce_sub (ce_var 1) ce_int) ca_nil))))))))))))
theorem sc_is_row : FnScope n14 n14 (defScope s_is_row) := ⟨rfl, rfl, rfl, by decide +kernel, rfl, by decide +kernel, by decide +kernel⟩
theorem okV_is_row {a_is_row : Addr} {d_is_row : FuncData} (T : Tx K mg) {e_TooMany e_NoFit e_NoName e_NoNumber e_NoRow e_NoRule e_NoText e_TooFew e_OpenError : Addr} (Y : Ec K mg e_TooMany e_NoFit e_NoName e_NoNumber e_NoRow e_NoRule e_NoText e_TooFew e_OpenError) (g_is_row : Gf K mg "is_row" s_is_row n14 a_is_row d_is_row)
  {a_is_tuple_of : Addr} {d_is_tuple_of : FuncData} (g_is_tuple_of : Gf K mg "is_tuple_of" s_is_tuple_of n13 a_is_tuple_of d_is_tuple_of)
  (GV_is_tuple_of : FnOk P w K mg base CX0 1 a_is_tuple_of d_is_tuple_of n13 (spD K fV_is_tuple_of 2))
  {a_is_from_to : Addr} {d_is_from_to : FuncData} (g_is_from_to : Gf K mg "is_from_to" s_is_from_to n12 a_is_from_to d_is_from_to)
  (GV_is_from_to : FnOk P w K mg base CX0 2 a_is_from_to d_is_from_to n12 (spD K fV_is_from_to 3))
  {a_is_line : Addr} {d_is_line : FuncData} (g_is_line : Gf K mg "is_line" s_is_line n3 a_is_line d_is_line)
  (GV_is_line : FnOk P w K mg base CX0 3 a_is_line d_is_line n3 (spD K fV_is_line 3)) :
  FnOk P w K mg base CX0 4 a_is_row d_is_row n14 (spD K fV_is_row 3) :=
 fn_ok .V g_is_row.F sc_is_row fun cdv A outer s H E hr => (css_one (cs_ret (ce_and (ce_call GV_is_tuple_of (hr.mono (by decide)) g_is_tuple_of.m g_is_tuple_of.F.kp g_is_tuple_of.b (ca_cons (ce_var 0) (ca_cons ce_int ca_nil))) (ce_and (ce_call GV_is_from_to (hr.mono (by decide)) g_is_from_to.m g_is_from_to.F.kp g_is_from_to.b (ca_cons (ce_idx (ce_var 0) ce_int) (ca_cons ce_int (ca_cons (ce_gint T.c_GREATEST_HAND.choose_spec) ca_nil)))) (ce_one (ce_call GV_is_line (hr.mono (by decide)) g_is_line.m g_is_line.F.kp g_is_line.b (ca_cons (ce_idx (ce_var 0) ce_int) (ca_cons (ce_var 1) (ca_cons (ce_var 2) ca_nil)))))))))
theorem sc_is_table : FnScope n5 n1 (defScope s_is_table) := ⟨rfl, rfl, rfl, by decide +kernel, rfl, by decide +kernel, by decide +kernel⟩
theorem okV_is_table {a_is_table : Addr} {d_is_table : FuncData} (T : Tx K mg) {e_TooMany e_NoFit e_NoName e_NoNumber e_NoRow e_NoRule e_NoText e_TooFew e_OpenError : Addr} (Y : Ec K mg e_TooMany e_NoFit e_NoName e_NoNumber e_NoRow e_NoRule e_NoText e_TooFew e_OpenError) (g_is_table : Gf K mg "is_table" s_is_table n1 a_is_table d_is_table)
  {a_is_tuple_of : Addr} {d_is_tuple_of : FuncData} (g_is_tuple_of : Gf K mg "is_tuple_of" s_is_tuple_of n13 a_is_tuple_of d_is_tuple_of)
  (GV_is_tuple_of : FnOk P w K mg base CX0 1 a_is_tuple_of d_is_tuple_of n13 (spD K fV_is_tuple_of 2))
  {a_is_prime : Addr} {d_is_prime : FuncData} (g_is_prime : Gf K mg "is_prime" s_is_prime n1 a_is_prime d_is_prime)
  (GV_is_prime : FnOk P w K mg base CX0 2 a_is_prime d_is_prime n1 (spD K fV_is_prime 1))
  {a_is_from_to : Addr} {d_is_from_to : FuncData} (g_is_from_to : Gf K mg "is_from_to" s_is_from_to n12 a_is_from_to d_is_from_to)
  (GV_is_from_to : FnOk P w K mg base CX0 2 a_is_from_to d_is_from_to n12 (spD K fV_is_from_to 3))
  {a_is_row : Addr} {d_is_row : FuncData} (g_is_row : Gf K mg "is_row" s_is_row n14 a_is_row d_is_row)
  (GV_is_row : FnOk P w K mg base CX0 4 a_is_row d_is_row n14 (spD K fV_is_row 3)) :
  FnOk P w K mg base CX0 5 a_is_table d_is_table n1 (spD K fV_is_table 1) :=
 fn_ok .V g_is_table.F sc_is_table fun cdv A outer s H E hr => (css_cons (cs_if (ct_not (ct_val (ce_call GV_is_tuple_of (hr.mono (by decide)) g_is_tuple_of.m g_is_tuple_of.F.kp g_is_tuple_of.b (ca_cons (ce_var 0) (ca_cons ce_int ca_nil))))) (css_one (cs_ret ce_bl)) css_nil)
 (css_cons (cs_set 1 sc_is_table.nd (ce_idx (ce_var 0) ce_int))
 (css_cons (cs_set 2 sc_is_table.nd (ce_idx (ce_var 0) ce_int))
 (css_cons (cs_set 3 sc_is_table.nd (ce_idx (ce_var 0) ce_int))
 (css_cons (cs_if (CW.ct (cw_or (ct_not (ct_val (ce_call GV_is_prime (hr.mono (by decide)) g_is_prime.m g_is_prime.F.kp g_is_prime.b (ca_cons (ce_var 1) ca_nil)))) (cw_one_or (ct_not (ct_val (ce_call GV_is_from_to (hr.mono (by decide)) g_is_from_to.m g_is_from_to.F.kp g_is_from_to.b (ca_cons (ce_var 2) (ca_cons ce_int (ca_cons (ce_gint T.c_MOST_WIDE.choose_spec) ca_nil))))))))) (css_one (cs_ret ce_bl)) css_nil)
 (css_cons (cs_if (CW.ct (cw_or (ct_not (ct_val (ce_is_tuple T.n_isinstance T.n_tuple (ce_var 3)))) (cw_one_or (ct_gt (ce_len T.n_len (ce_var 3)) (ce_gint T.c_MOST_ROWS.choose_spec))))) (css_one (cs_ret ce_bl)) css_nil)
 (css_one (cs_ret (ce_all hr T.n_all (CF.ce (cf_comp (N' := n4) rfl (compScope_of (defScope s_is_table) rfl n5 rfl (by decide +kernel)) rfl (leaves_name rfl) (ci_seq (ce_var 3)) (fun _ _ _ _ _ => (cb_name 0 (show n4.Nodup by decide +kernel))) (fun _ _ _ _ _ => pifs_true) (fun _ _ _ _ _ => (ce_call GV_is_row (hr.mono (by decide)) g_is_row.m g_is_row.F.kp g_is_row.b (ca_cons (ce_var 0) (ca_cons (ce_var 1) (ca_cons (ce_var 2) ca_nil))))))))))))))))
theorem sc_own_places : FnScope n15 n15 (defScope s_own_places) := ⟨rfl, rfl, rfl, by decide +kernel, rfl, by decide +kernel, by decide +kernel⟩
theorem okV_own_places {a_own_places : Addr} {d_own_places : FuncData} (T : Tx K mg) {e_TooMany e_NoFit e_NoName e_NoNumber e_NoRow e_NoRule e_NoText e_TooFew e_OpenError : Addr} (Y : Ec K mg e_TooMany e_NoFit e_NoName e_NoNumber e_NoRow e_NoRule e_NoText e_TooFew e_OpenError) (g_own_places : Gf K mg "own_places" s_own_places n15 a_own_places d_own_places) :
  FnOk P w K mg base CX0 1 a_own_places d_own_places n15 (spD K fV_own_places 1) :=
 fn_ok .V g_own_places.F sc_own_places fun cdv A outer s H E hr => (css_one (cs_ret (ce_max T.n_max (ce_sub (ce_idx (ce_var 0) ce_int) ce_int) ce_int)))
theorem sc_places_taken : FnScope n7 n7 (defScope s_places_taken) := ⟨rfl, rfl, rfl, by decide +kernel, rfl, by decide +kernel, by decide +kernel⟩
theorem okR_places_taken {a_places_taken : Addr} {d_places_taken : FuncData} (T : Tx K mg) {e_TooMany e_NoFit e_NoName e_NoNumber e_NoRow e_NoRule e_NoText e_TooFew e_OpenError : Addr} (Y : Ec K mg e_TooMany e_NoFit e_NoName e_NoNumber e_NoRow e_NoRule e_NoText e_TooFew e_OpenError) (g_places_taken : Gf K mg "places_taken" s_places_taken n7 a_places_taken d_places_taken)
  {a_is_hand : Addr} {d_is_hand : FuncData} (g_is_hand : Gf K mg "is_hand" s_is_hand n7 a_is_hand d_is_hand)
  (GV_is_hand : FnOk P w K mg base CX0 1 a_is_hand d_is_hand n7 (spD K fV_is_hand 1))
  {a_own_places : Addr} {d_own_places : FuncData} (g_own_places : Gf K mg "own_places" s_own_places n15 a_own_places d_own_places)
  (GV_own_places : FnOk P w K mg base CX0 1 a_own_places d_own_places n15 (spD K fV_own_places 1)) :
  ∀ n, FnOk P w K mg base CX0 (1 + n) a_places_taken d_places_taken n7 (spD K (fV_places_taken n) 1)
 | 0 => fn_none.mono (Nat.zero_le _)
 | n + 1 => by
  have GV_places_taken := okR_places_taken T Y g_places_taken g_is_hand GV_is_hand g_own_places GV_own_places n
  exact fn_ok .V g_places_taken.F sc_places_taken fun cdv A outer s H E hr => (css_cons (cs_if (ct_val (ce_call GV_is_hand (hr.mono (Nat.le_trans (by decide) (Nat.le_add_right 1 _))) g_is_hand.m g_is_hand.F.kp g_is_hand.b (ca_cons (ce_var 0) ca_nil))) (css_one (cs_ret ce_int)) css_nil)
 (css_one (cs_ret (ce_add (ce_call GV_own_places (hr.mono (Nat.le_trans (by decide) (Nat.le_add_right 1 _))) g_own_places.m g_own_places.F.kp g_own_places.b (ca_cons (ce_var 0) ca_nil)) (ce_sum hr T.n_sum (CF.ce (cf_comp (N' := n6) rfl (compScope_of (defScope s_places_taken) rfl n7 rfl (by decide +kernel)) rfl (leaves_name rfl) (ci_seq (ce_idx (ce_var 0) ce_int)) (fun _ _ _ _ _ => (cb_name 0 (show n6.Nodup by decide +kernel))) (fun _ _ _ _ _ => pifs_true) (fun _ _ _ _ _ => (ce_call GV_places_taken hr g_places_taken.m g_places_taken.F.kp g_places_taken.b (ca_cons (ce_var 0) ca_nil))))))))))
theorem sc_is_crowded : FnScope n9 n9 (defScope s_is_crowded) := ⟨rfl, rfl, rfl, by decide +kernel, rfl, by decide +kernel, by decide +kernel⟩
theorem okR_is_crowded {a_is_crowded : Addr} {d_is_crowded : FuncData} (T : Tx K mg) {e_TooMany e_NoFit e_NoName e_NoNumber e_NoRow e_NoRule e_NoText e_TooFew e_OpenError : Addr} (Y : Ec K mg e_TooMany e_NoFit e_NoName e_NoNumber e_NoRow e_NoRule e_NoText e_TooFew e_OpenError) (g_is_crowded : Gf K mg "is_crowded" s_is_crowded n9 a_is_crowded d_is_crowded)
  {a_is_hand : Addr} {d_is_hand : FuncData} (g_is_hand : Gf K mg "is_hand" s_is_hand n7 a_is_hand d_is_hand)
  (GV_is_hand : FnOk P w K mg base CX0 1 a_is_hand d_is_hand n7 (spD K fV_is_hand 1)) :
  ∀ n, FnOk P w K mg base CX0 (1 + n) a_is_crowded d_is_crowded n9 (spD K (fV_is_crowded n) 2)
 | 0 => fn_none.mono (Nat.zero_le _)
 | n + 1 => by
  have GV_is_crowded := okR_is_crowded T Y g_is_crowded g_is_hand GV_is_hand n
  exact fn_ok .V g_is_crowded.F sc_is_crowded fun cdv A outer s H E hr => (css_cons (cs_if (ct_val (ce_call GV_is_hand (hr.mono (Nat.le_trans (by decide) (Nat.le_add_right 1 _))) g_is_hand.m g_is_hand.F.kp g_is_hand.b (ca_cons (ce_var 1) ca_nil))) (css_one (cs_ret ce_bl)) css_nil)
 (css_cons (cs_if (CW.ct (cw_and (ct_gt (ce_idx (ce_var 1) ce_int) ce_int) (cw_one_and (ct_ge (ce_len T.n_len (ce_idx (ce_var 1) ce_int)) (ce_var 0))))) (css_one (cs_ret ce_bl)) css_nil)
 (css_one (cs_ret (ce_any hr T.n_any (CF.ce (cf_comp (N' := n8) rfl (compScope_of (defScope s_is_crowded) rfl n9 rfl (by decide +kernel)) rfl (leaves_name rfl) (ci_seq (ce_idx (ce_var 1) ce_int)) (fun _ _ _ _ _ => (cb_name 0 (show n8.Nodup by decide +kernel))) (fun _ _ _ _ _ => pifs_true) (fun _ _ _ _ _ => (ce_call GV_is_crowded hr g_is_crowded.m g_is_crowded.F.kp g_is_crowded.b (ca_cons (ce_var 1) (ca_cons (ce_var 0) ca_nil)))))))))))
theorem sc_with_powers : FnScope n16 n17 (defScope s_with_powers) := ⟨rfl, rfl, rfl, by decide +kernel, rfl, by decide +kernel, by decide +kernel⟩
theorem okV_with_powers {a_with_powers : Addr} {d_with_powers : FuncData} (T : Tx K mg) {e_TooMany e_NoFit e_NoName e_NoNumber e_NoRow e_NoRule e_NoText e_TooFew e_OpenError : Addr} (Y : Ec K mg e_TooMany e_NoFit e_NoName e_NoNumber e_NoRow e_NoRule e_NoText e_TooFew e_OpenError) (g_with_powers : Gf K mg "with_powers" s_with_powers n17 a_with_powers d_with_powers) :
  FnOk P w K mg base CX0 1 a_with_powers d_with_powers n17 (spD K fV_with_powers 5) :=
 fn_ok .V g_with_powers.F sc_with_powers fun cdv A outer s H E hr => (css_cons (cs_set 5 sc_with_powers.nd (CF.cell (cf_list T.n_list (ce_var 1))))
 (css_cons (cs_set 6 sc_with_powers.nd ce_int)
 (css_cons (cs_for PassesOwn.never rfl (ci_range2 T.n_range (ce_var 2) (ce_add (ce_var 2) (ce_var 3))) (cb_name 7 sc_with_powers.nd) (css_cons (cs_set 6 sc_with_powers.nd (ce_mod (ce_mul (ce_var 6) (ce_var 4)) (ce_var 0)))
 (css_one (cs_setItem 5 (ce_var 7) (ce_var 6)))))
 (css_one (cs_ret (ce_var 5))))))
theorem sc_rows_made : FnScope n18 n19 (defScope s_rows_made) := ⟨rfl, rfl, rfl, by decide +kernel, rfl, by decide +kernel, by decide +kernel⟩
theorem okR_rows_made {a_rows_made : Addr} {d_rows_made : FuncData} (T : Tx K mg) {e_TooMany e_NoFit e_NoName e_NoNumber e_NoRow e_NoRule e_NoText e_TooFew e_OpenError : Addr} (Y : Ec K mg e_TooMany e_NoFit e_NoName e_NoNumber e_NoRow e_NoRule e_NoText e_TooFew e_OpenError) (g_rows_made : Gf K mg "rows_made" s_rows_made n19 a_rows_made d_rows_made)
  {a_is_hand : Addr} {d_is_hand : FuncData} (g_is_hand : Gf K mg "is_hand" s_is_hand n7 a_is_hand d_is_hand)
  (GV_is_hand : FnOk P w K mg base CX0 1 a_is_hand d_is_hand n7 (spD K fV_is_hand 1))
  {a_own_places : Addr} {d_own_places : FuncData} (g_own_places : Gf K mg "own_places" s_own_places n15 a_own_places d_own_places)
  (GV_own_places : FnOk P w K mg base CX0 1 a_own_places d_own_places n15 (spD K fV_own_places 1))
  {a_with_powers : Addr} {d_with_powers : FuncData} (g_with_powers : Gf K mg "with_powers" s_with_powers n17 a_with_powers d_with_powers)
  (GV_with_powers : FnOk P w K mg base CX0 1 a_with_powers d_with_powers n17 (spD K fV_with_powers 5))
  {a_places_taken : Addr} {d_places_taken : FuncData} (g_places_taken : Gf K mg "places_taken" s_places_taken n7 a_places_taken d_places_taken)
  (GV_places_taken : FnOk P w K mg base CX0 9 a_places_taken d_places_taken n7 (spD K (fV_places_taken 8) 1)) :
  ∀ n, FnOk P w K mg base CX0 (9 + n) a_rows_made d_rows_made n19 (spD K (fV_rows_made n) 4)
 | 0 => fn_none.mono (Nat.zero_le _)
 | n + 1 => by
  have GV_rows_made := okR_rows_made T Y g_rows_made g_is_hand GV_is_hand g_own_places GV_own_places g_with_powers GV_with_powers g_places_taken GV_places_taken n
  exact fn_ok .V g_rows_made.F sc_rows_made fun cdv A outer s H E hr => (css_cons (cs_if (ct_val (ce_call GV_is_hand (hr.mono (Nat.le_trans (by decide) (Nat.le_add_right 9 _))) g_is_hand.m g_is_hand.F.kp g_is_hand.b (ca_cons (ce_var 1) ca_nil))) (css_one (cs_ret (CF.ce (cf_lst (ca_cons (ce_tup (ca_cons (ce_idx (ce_var 1) ce_int) (ca_cons (ce_tuple T.n_tuple (ce_var 2)) ca_nil)) (hl := Nat.le_of_ble_eq_true rfl)) ca_nil))))) css_nil)
 (css_cons (cs_set 4 sc_rows_made.nd (ce_call GV_own_places (hr.mono (Nat.le_trans (by decide) (Nat.le_add_right 9 _))) g_own_places.m g_own_places.F.kp g_own_places.b (ca_cons (ce_var 1) ca_nil)))
 (css_cons (cs_set 5 sc_rows_made.nd (CF.cell (cf_lst ca_nil)))
 (css_cons (cs_set 6 sc_rows_made.nd (ce_add (ce_var 3) (ce_var 4)))
 (css_cons (cs_for PassesOwn.never rfl (ci_enum1 T.n_enumerate (ce_idx (ce_var 1) ce_int)) (cb_pair 7 8 sc_rows_made.nd rfl) (css_cons (cs_extendV (ce_var 5) (ce_call GV_rows_made hr g_rows_made.m g_rows_made.F.kp g_rows_made.b (ca_cons (ce_var 0) (ca_cons (ce_var 8) (ca_cons (ce_call GV_with_powers (hr.mono (Nat.le_trans (by decide) (Nat.le_add_right 9 _))) g_with_powers.m g_with_powers.F.kp g_with_powers.b (ca_cons (ce_var 0) (ca_cons (ce_var 2) (ca_cons (ce_var 3) (ca_cons (ce_var 4) (ca_cons (ce_var 7) ca_nil)))))) (ca_cons (ce_var 6) ca_nil))))))
 (css_one (cs_set 6 sc_rows_made.nd (ce_add (ce_var 6) (ce_call GV_places_taken (hr.mono (Nat.le_trans (by decide) (Nat.le_add_right 9 _))) g_places_taken.m g_places_taken.F.kp g_places_taken.b (ca_cons (ce_var 8) ca_nil)))))))
 (css_one (cs_ret (ce_var 5))))))))
theorem sc_table_of : FnScope n20 n9 (defScope s_table_of) := ⟨rfl, rfl, rfl, by decide +kernel, rfl, by decide +kernel, by decide +kernel⟩
theorem okV_table_of {a_table_of : Addr} {d_table_of : FuncData} (T : Tx K mg) {e_TooMany e_NoFit e_NoName e_NoNumber e_NoRow e_NoRule e_NoText e_TooFew e_OpenError : Addr} (Y : Ec K mg e_TooMany e_NoFit e_NoName e_NoNumber e_NoRow e_NoRule e_NoText e_TooFew e_OpenError) (g_table_of : Gf K mg "table_of" s_table_of n9 a_table_of d_table_of)
  {a_places_taken : Addr} {d_places_taken : FuncData} (g_places_taken : Gf K mg "places_taken" s_places_taken n7 a_places_taken d_places_taken)
  (GV_places_taken : FnOk P w K mg base CX0 9 a_places_taken d_places_taken n7 (spD K (fV_places_taken 8) 1))
  {a_is_crowded : Addr} {d_is_crowded : FuncData} (g_is_crowded : Gf K mg "is_crowded" s_is_crowded n9 a_is_crowded d_is_crowded)
  (GV_is_crowded : FnOk P w K mg base CX0 9 a_is_crowded d_is_crowded n9 (spD K (fV_is_crowded 8) 2))
  {a_rows_made : Addr} {d_rows_made : FuncData} (g_rows_made : Gf K mg "rows_made" s_rows_made n19 a_rows_made d_rows_made)
  (GV_rows_made : FnOk P w K mg base CX0 17 a_rows_made d_rows_made n19 (spD K (fV_rows_made 8) 4)) :
  FnOk P w K mg base CX0 18 a_table_of d_table_of n9 (spD K fV_table_of 2) :=
 fn_ok .V g_table_of.F sc_table_of fun cdv A outer s H E hr => (css_cons (cs_set 2 sc_table_of.nd (ce_add ce_int (ce_call GV_places_taken (hr.mono (by decide)) g_places_taken.m g_places_taken.F.kp g_places_taken.b (ca_cons (ce_var 1) ca_nil))))
 (css_cons (cs_if (ct_gt (ce_var 2) (ce_gint T.c_MOST_WIDE.choose_spec)) (css_one cs_bad) css_nil)
 (css_cons (cs_if (ct_val (ce_call GV_is_crowded (hr.mono (by decide)) g_is_crowded.m g_is_crowded.F.kp g_is_crowded.b (ca_cons (ce_var 0) (ca_cons (ce_var 1) ca_nil)))) (css_one cs_bad) css_nil)
 (css_one (cs_ret (ce_tup (ca_cons (ce_var 0) (ca_cons (ce_var 2) (ca_cons (ce_tuple T.n_tuple (ce_call GV_rows_made (hr.mono (by decide)) g_rows_made.m g_rows_made.F.kp g_rows_made.b (ca_cons (ce_var 0) (ca_cons (ce_var 1) (ca_cons (ce_add (CF.ce (cf_lst (ca_cons ce_int ca_nil))) (CF.ce (cf_rep (ca_cons ce_int ca_nil) (ce_sub (ce_var 2) ce_int)))) (ca_cons ce_int ca_nil)))))) ca_nil)))))))))
theorem okX_table_of {a_table_of : Addr} {d_table_of : FuncData} (T : Tx K mg) {e_TooMany e_NoFit e_NoName e_NoNumber e_NoRow e_NoRule e_NoText e_TooFew e_OpenError : Addr} (Y : Ec K mg e_TooMany e_NoFit e_NoName e_NoNumber e_NoRow e_NoRule e_NoText e_TooFew e_OpenError) (g_table_of : Gf K mg "table_of" s_table_of n9 a_table_of d_table_of)
  {a_rows_made : Addr} {d_rows_made : FuncData} (g_rows_made : Gf K mg "rows_made" s_rows_made n19 a_rows_made d_rows_made)
  (GV_rows_made : FnOk P w K mg base CX0 17 a_rows_made d_rows_made n19 (spD K (fV_rows_made 8) 4))
  {a_places_taken : Addr} {d_places_taken : FuncData} (g_places_taken : Gf K mg "places_taken" s_places_taken n7 a_places_taken d_places_taken)
  (GV_places_taken : FnOk P w K mg base CX0 9 a_places_taken d_places_taken n7 (spD K (fV_places_taken 8) 1))
  {a_is_crowded : Addr} {d_is_crowded : FuncData} (g_is_crowded : Gf K mg "is_crowded" s_is_crowded n9 a_is_crowded d_is_crowded)
  (GV_is_crowded : FnOk P w K mg base CX0 9 a_is_crowded d_is_crowded n9 (spD K (fV_is_crowded 8) 2)) :
  FnOk P w K mg base (CX1 P w) 18 a_table_of d_table_of n9 (spX K mg fX_table_of 2) :=
 fn_okX g_table_of.F sc_table_of fun cdv A outer s H E hr => (css_cons (cs_set 2 sc_table_of.nd (ce_add ce_int (ce_call GV_places_taken (hr.mono (by decide)) g_places_taken.m g_places_taken.F.kp g_places_taken.b (ca_cons (ce_var 1) ca_nil))))
 (css_cons (cs_if (ct_gt (ce_var 2) (ce_gint T.c_MOST_WIDE.choose_spec)) (css_one (cs_raise PySem.F.excBase_ValueError rfl Y.m_TooMany Y.q_TooMany)) css_nil)
 (css_cons (cs_if (ct_val (ce_call GV_is_crowded (hr.mono (by decide)) g_is_crowded.m g_is_crowded.F.kp g_is_crowded.b (ca_cons (ce_var 0) (ca_cons (ce_var 1) ca_nil)))) (css_one (cs_raise PySem.F.excBase_ValueError rfl Y.m_TooMany Y.q_TooMany)) css_nil)
 (css_calm (css_one (cs_ret (ce_tup (ca_cons (ce_var 0) (ca_cons (ce_var 2) (ca_cons (ce_tuple T.n_tuple (ce_call GV_rows_made (hr.mono (by decide)) g_rows_made.m g_rows_made.F.kp g_rows_made.b (ca_cons (ce_var 0) (ca_cons (ce_var 1) (ca_cons (ce_add (CF.ce (cf_lst (ca_cons ce_int ca_nil))) (CF.ce (cf_rep (ca_cons ce_int ca_nil) (ce_sub (ce_var 2) ce_int)))) (ca_cons ce_int ca_nil)))))) ca_nil))))))))))
theorem sc__law_cell : FnScope n21 n22 (defScope s__law_cell) := ⟨rfl, rfl, rfl, by decide +kernel, rfl, by decide +kernel, by decide +kernel⟩
theorem okV__law_cell {a__law_cell : Addr} {d__law_cell : FuncData} (T : Tx K mg) {e_TooMany e_NoFit e_NoName e_NoNumber e_NoRow e_NoRule e_NoText e_TooFew e_OpenError : Addr} (Y : Ec K mg e_TooMany e_NoFit e_NoName e_NoNumber e_NoRow e_NoRule e_NoText e_TooFew e_OpenError) (g__law_cell : Gf K mg "_law_cell" s__law_cell n22 a__law_cell d__law_cell) :
  FnOk P w K mg base CX0 1 a__law_cell d__law_cell n22 (spD K fV__law_cell 2) :=
 fn_ok .V g__law_cell.F sc__law_cell fun cdv A outer s H E hr => (css_cons (cs_if (ct_lt (ce_var 1) (ce_len T.n_len (ce_var 0))) (css_one (cs_ret (ce_idx (ce_var 0) (ce_var 1)))) css_nil)
 (css_cons (cs_set 2 sc__law_cell.nd (ce_add (ce_mul (ce_var 1) ce_int) ce_int))
 (css_cons (cs_if (ct_gt (ce_len T.n_len (ce_var 0)) ce_int) (css_one (cs_set 2 sc__law_cell.nd (ce_add (ce_var 2) (ce_mul (ce_mod (ce_idx (ce_var 0) (ce_mod (ce_add (ce_mul ce_int (ce_var 1)) ce_int) (ce_len T.n_len (ce_var 0)))) ce_int) ce_int)))) css_nil)
 (css_cons (cs_set 2 sc__law_cell.nd (ce_mod (ce_mul (ce_var 2) (ce_var 2)) ce_int))
 (css_one (cs_ret (ce_mod (ce_mul (ce_var 2) (ce_var 2)) ce_int)))))))
theorem sc__law_p : FnScope n23 n23 (defScope s__law_p) := ⟨rfl, rfl, rfl, by decide +kernel, rfl, by decide +kernel, by decide +kernel⟩
theorem okV__law_p {a__law_p : Addr} {d__law_p : FuncData} (T : Tx K mg) {e_TooMany e_NoFit e_NoName e_NoNumber e_NoRow e_NoRule e_NoText e_TooFew e_OpenError : Addr} (Y : Ec K mg e_TooMany e_NoFit e_NoName e_NoNumber e_NoRow e_NoRule e_NoText e_TooFew e_OpenError) (g__law_p : Gf K mg "_law_p" s__law_p n23 a__law_p d__law_p) :
  FnOk P w K mg base CX0 1 a__law_p d__law_p n23 (spD K fV__law_p 1) :=
 fn_ok .V g__law_p.F sc__law_p fun cdv A outer s H E hr => (css_cons (cs_if (ct_eq hr (ce_mod (ce_div (ce_var 0) ce_int) ce_int) ce_int) (css_one (cs_ret (ce_idx (CF.ce (cf_lst (ca_cons ce_int (ca_cons ce_int (ca_cons ce_int (ca_cons ce_int ca_nil)))))) (ce_mod (ce_div (ce_var 0) ce_int) ce_int)))) css_nil)
 (css_one (cs_ret (ce_idx (CF.ce (cf_lst (ca_cons ce_int (ca_cons ce_int (ca_cons ce_int (ca_cons ce_int (ca_cons ce_int (ca_cons ce_int ca_nil)))))))) (ce_mod (ce_var 0) ce_int)))))
theorem sc__law_rule : FnScope n24 n25 (defScope s__law_rule) := ⟨rfl, rfl, rfl, by decide +kernel, rfl, by decide +kernel, by decide +kernel⟩
theorem okR__law_rule {a__law_rule : Addr} {d__law_rule : FuncData} (T : Tx K mg) {e_TooMany e_NoFit e_NoName e_NoNumber e_NoRow e_NoRule e_NoText e_TooFew e_OpenError : Addr} (Y : Ec K mg e_TooMany e_NoFit e_NoName e_NoNumber e_NoRow e_NoRule e_NoText e_TooFew e_OpenError) (g__law_rule : Gf K mg "_law_rule" s__law_rule n25 a__law_rule d__law_rule)
  {a__law_cell : Addr} {d__law_cell : FuncData} (g__law_cell : Gf K mg "_law_cell" s__law_cell n22 a__law_cell d__law_cell)
  (GV__law_cell : FnOk P w K mg base CX0 1 a__law_cell d__law_cell n22 (spD K fV__law_cell 2)) :
  ∀ n, FnOk P w K mg base CX0 (1 + n) a__law_rule d__law_rule n25 (spD K (fV__law_rule n) 3)
 | 0 => fn_none.mono (Nat.zero_le _)
 | n + 1 => by
  have GV__law_rule := okR__law_rule T Y g__law_rule g__law_cell GV__law_cell n
  exact fn_ok .V g__law_rule.F sc__law_rule fun cdv A outer s H E hr => (css_cons (cs_set 3 sc__law_rule.nd (ce_call GV__law_cell (hr.mono (Nat.le_trans (by decide) (Nat.le_add_right 1 _))) g__law_cell.m g__law_cell.F.kp g__law_cell.b (ca_cons (ce_var 0) (ca_cons (ce_add ce_int (ce_idx (ce_var 1) ce_int)) ca_nil))))
 (css_cons (cs_setItem 1 ce_int (ce_add (ce_idx (ce_var 1) ce_int) ce_int))
 (css_cons (cs_if (CW.ct (cw_or (ct_eq hr (ce_var 2) ce_int) (cw_or (ct_gt (ce_idx (ce_var 1) ce_int) ce_int) (cw_or (CW.ct (cw_and (ct_gt (ce_var 2) ce_int) (cw_one_and (ct_lt (ce_mod (ce_var 3) ce_int) ce_int)))) (cw_one_or (CW.ct (cw_and (ct_eq hr (ce_var 2) ce_int) (cw_one_and (ct_eq hr (ce_mod (ce_var 3) ce_int) ce_int))))))))) (css_cons (cs_setItem 1 ce_int (ce_add (ce_idx (ce_var 1) ce_int) ce_int))
 (css_one (cs_ret (ce_tup (ca_cons ce_str (ca_cons (ce_mod (ce_div (ce_var 3) ce_int) (ce_idx (CF.ce (cf_lst (ca_cons ce_int (ca_cons ce_int ca_nil)))) (ce_mod (ce_div (ce_var 3) ce_int) ce_int))) ca_nil)) (hl := Nat.le_of_ble_eq_true rfl))))) css_nil)
 (css_cons (cs_set 4 sc__law_rule.nd (ce_add ce_int (ce_mod (ce_div (ce_var 3) ce_int) (ce_idx (CF.ce (cf_lst (ca_cons ce_int (ca_cons ce_int ca_nil)))) (ce_int_ T.n_int (ce_eq hr (ce_var 2) ce_int))))))
 (css_cons (cs_set 5 sc__law_rule.nd (ce_add ce_int (ce_mod (ce_div (ce_var 3) ce_int) (ce_var 4))))
 (css_cons (cs_set 6 sc__law_rule.nd (CF.cell (cf_lst ca_nil)))
 (css_cons (cs_for PassesOwn.never rfl (ci_range1 T.n_range (ce_var 4)) (cb_name 7 sc__law_rule.nd) (css_one (cs_if (ct_lt (ce_idx (ce_var 1) ce_int) ce_int) (css_one (cs_append (ce_var 6) (ce_call GV__law_rule hr g__law_rule.m g__law_rule.F.kp g__law_rule.b (ca_cons (ce_var 0) (ca_cons (ce_var 1) (ca_cons (ce_add (ce_var 2) ce_int) ca_nil)))))) css_nil)))
 (css_cons (cs_if (ct_eq hr (ce_var 6) (CF.ce (cf_lst ca_nil))) (css_cons (cs_setItem 1 ce_int (ce_add (ce_idx (ce_var 1) ce_int) ce_int))
 (css_one (cs_set 6 sc__law_rule.nd (CF.cell (cf_lst (ca_cons (ce_tup (ca_cons ce_str (ca_cons (ce_mod (ce_div (ce_var 3) ce_int) ce_int) ca_nil)) (hl := Nat.le_of_ble_eq_true rfl)) ca_nil)))))) css_nil)
 (css_one (cs_ret (ce_tup (ca_cons ce_str (ca_cons (ce_min T.n_min (ce_var 5) (ce_len T.n_len (ce_var 6))) (ca_cons (ce_tuple T.n_tuple (ce_var 6)) ca_nil))) (hl := Nat.le_of_ble_eq_true rfl))))))))))))
theorem sc__law_laid : FnScope n26 n27 (defScope s__law_laid) := ⟨rfl, rfl, rfl, by decide +kernel, rfl, by decide +kernel, by decide +kernel⟩
theorem okR__law_laid {a__law_laid : Addr} {d__law_laid : FuncData} (T : Tx K mg) {e_TooMany e_NoFit e_NoName e_NoNumber e_NoRow e_NoRule e_NoText e_TooFew e_OpenError : Addr} (Y : Ec K mg e_TooMany e_NoFit e_NoName e_NoNumber e_NoRow e_NoRule e_NoText e_TooFew e_OpenError) (g__law_laid : Gf K mg "_law_laid" s__law_laid n27 a__law_laid d__law_laid) :
  ∀ n, FnOk P w K mg base CX0 (0 + n) a__law_laid d__law_laid n27 (spD K (fV__law_laid n) 5)
 | 0 => fn_none.mono (Nat.zero_le _)
 | n + 1 => by
  have GV__law_laid := okR__law_laid T Y g__law_laid n
  exact fn_ok .V g__law_laid.F sc__law_laid fun cdv A outer s H E hr => (css_cons (cs_if (ct_eq hr (ce_idx (ce_var 1) ce_int) ce_str) (css_cons (cs_append (ce_var 4) (ce_tup (ca_cons (ce_idx (ce_var 1) ce_int) (ca_cons (ce_var 2) ca_nil)) (hl := Nat.le_of_ble_eq_true rfl)))
 (css_one (cs_ret ce_bl))) css_nil)
 (css_cons (cs_unp (cb_tri 5 6 7 sc__law_laid.nd rfl) (ce_var 1))
 (css_cons (cs_set 8 sc__law_laid.nd (ce_idx (ce_var 3) ce_int))
 (css_cons (cs_setItem 3 ce_int (ce_sub (ce_add (ce_var 8) (ce_var 6)) ce_int))
 (css_cons (cs_set 9 sc__law_laid.nd (ce_or (ce_eq hr (ce_var 6) ce_int) (ce_one (ce_lt (ce_len T.n_len (ce_var 7)) (ce_var 0)))))
 (css_cons (cs_for PassesOwn.never rfl (ci_range1 T.n_range (ce_len T.n_len (ce_var 7))) (cb_name 10 sc__law_laid.nd) (css_cons (cs_set 11 sc__law_laid.nd (CF.cell (cf_dictC T.n_dict (ce_var 2))))
 (css_cons (cs_set 12 sc__law_laid.nd ce_int)
 (css_cons (cs_for PassesOwn.never rfl (ci_range2 T.n_range (ce_var 8) (ce_sub (ce_add (ce_var 8) (ce_var 6)) ce_int)) (cb_name 13 sc__law_laid.nd) (css_cons (cs_set 12 sc__law_laid.nd (ce_mod (ce_mul (ce_var 12) (ce_add (ce_var 10) ce_int)) (ce_var 0)))
 (css_one (cs_putD hr 11 (ce_var 13) (ce_var 12)))))
 (css_one (cs_set 9 sc__law_laid.nd (ce_and (ce_call GV__law_laid hr g__law_laid.m g__law_laid.F.kp g__law_laid.b (ca_cons (ce_var 0) (ca_cons (ce_idx (ce_var 7) (ce_var 10)) (ca_cons (ce_var 11) (ca_cons (ce_var 3) (ca_cons (ce_var 4) ca_nil)))))) (ce_one (ce_var 9)))))))))
 (css_one (cs_ret (ce_var 9)))))))))
theorem sc__law_due : FnScope n11 n28 (defScope s__law_due) := ⟨rfl, rfl, rfl, by decide +kernel, rfl, by decide +kernel, by decide +kernel⟩
theorem okV__law_due {a__law_due : Addr} {d__law_due : FuncData} (T : Tx K mg) {e_TooMany e_NoFit e_NoName e_NoNumber e_NoRow e_NoRule e_NoText e_TooFew e_OpenError : Addr} (Y : Ec K mg e_TooMany e_NoFit e_NoName e_NoNumber e_NoRow e_NoRule e_NoText e_TooFew e_OpenError) (g__law_due : Gf K mg "_law_due" s__law_due n28 a__law_due d__law_due)
  {a__law_laid : Addr} {d__law_laid : FuncData} (g__law_laid : Gf K mg "_law_laid" s__law_laid n27 a__law_laid d__law_laid)
  (GV__law_laid : FnOk P w K mg base CX0 8 a__law_laid d__law_laid n27 (spD K (fV__law_laid 8) 5)) :
  FnOk P w K mg base CX0 9 a__law_due d__law_due n28 (spD K fV__law_due 2) :=
 fn_ok .V g__law_due.F sc__law_due fun cdv A outer s H E hr => (css_cons (cs_set 2 sc__law_due.nd (CF.cell (cf_lst (ca_cons ce_int ca_nil))))
 (css_cons (cs_set 3 sc__law_due.nd (CF.cell (cf_lst ca_nil)))
 (css_cons (cs_set 4 sc__law_due.nd (ce_call GV__law_laid (hr.mono (by decide)) g__law_laid.m g__law_laid.F.kp g__law_laid.b (ca_cons (ce_var 0) (ca_cons (ce_var 1) (ca_cons (CF.ce cf_dctC) (ca_cons (ce_var 2) (ca_cons (ce_var 3) ca_nil)))))))
 (css_cons (cs_if (CW.ct (cw_or (ct_not (ct_val (ce_var 4))) (cw_one_or (ct_gt (ce_idx (ce_var 2) ce_int) ce_int)))) (css_one (cs_ret ce_non)) css_nil)
 (css_cons (cs_set 5 sc__law_due.nd (CF.cell (cf_lst ca_nil)))
 (css_cons (cs_for PassesOwn.never rfl (ci_seq (ce_var 3)) (cb_pair 6 7 sc__law_due.nd rfl) (css_one (cs_append (ce_var 5) (ce_tup (ca_cons (ce_var 6) (ca_cons (ce_tuple T.n_tuple (CF.ce (cf_comp (N' := n10) rfl (compScope_of (defScope s__law_due) rfl n11 rfl (by decide +kernel)) rfl (leaves_name rfl) (ci_range1 T.n_range (ce_idx (ce_var 2) ce_int)) (fun _ _ _ _ _ => (cb_name 0 (show n10.Nodup by decide +kernel))) (fun _ _ _ _ _ => pifs_true) (fun _ _ _ _ _ => (ce_getO hr (ce_var 1) (ce_var 0)))))) ca_nil))))))
 (css_one (cs_ret (ce_tup (ca_cons (ce_var 0) (ca_cons (ce_idx (ce_var 2) ce_int) (ca_cons (ce_tuple T.n_tuple (ce_var 5)) ca_nil))))))))))))
theorem sc__law_told : FnScope n29 n28 (defScope s__law_told) := ⟨rfl, rfl, rfl, by decide +kernel, rfl, by decide +kernel, by decide +kernel⟩
theorem okV__law_told {a__law_told : Addr} {d__law_told : FuncData} (T : Tx K mg) {e_TooMany e_NoFit e_NoName e_NoNumber e_NoRow e_NoRule e_NoText e_TooFew e_OpenError : Addr} (Y : Ec K mg e_TooMany e_NoFit e_NoName e_NoNumber e_NoRow e_NoRule e_NoText e_TooFew e_OpenError) (g__law_told : Gf K mg "_law_told" s__law_told n28 a__law_told d__law_told)
  {a_table_of : Addr} {d_table_of : FuncData} (g_table_of : Gf K mg "table_of" s_table_of n9 a_table_of d_table_of)
  (GX_table_of : FnOk P w K mg base (CX1 P w) 18 a_table_of d_table_of n9 (spX K mg fX_table_of 2)) :
  FnOk P w K mg base CX0 19 a__law_told d__law_told n28 (spD K fV__law_told 2) :=
 fn_ok .V g__law_told.F sc__law_told fun cdv A outer s H E hr => (css_cons (cs_set 2 sc__law_told.nd ce_non)
 (css_cons (cs_try rfl rfl (fun E pn => (css_one (cs_set 2 sc__law_told.nd (ce_callX GX_table_of (hr.mono (by decide)) g_table_of.m g_table_of.F.kp g_table_of.b (ca_cons (ce_var 0) (ca_cons (ce_var 1) ca_nil)))))) (ch_one (ch_skip_tup Y.m_TooMany (excK_of Y.q_TooMany) [("NoFit", _, e_NoFit), ("NoName", _, e_NoName), ("NoNumber", _, e_NoNumber), ("NoRow", _, e_NoRow), ("NoRule", _, e_NoRule), ("NoText", _, e_NoText), ("TooFew", _, e_TooFew)] (Nat.le_of_ble_eq_true rfl) (fm_cons ⟨⟨rfl, Y.m_NoFit, by show (("NoFit" : Str) == "__debug__") = false; decide⟩, Y.o_NoFit, Y.s6⟩ (fm_cons ⟨⟨rfl, Y.m_NoName, by show (("NoName" : Str) == "__debug__") = false; decide⟩, Y.o_NoName, Y.s5⟩ (fm_cons ⟨⟨rfl, Y.m_NoNumber, by show (("NoNumber" : Str) == "__debug__") = false; decide⟩, Y.o_NoNumber, Y.s4⟩ (fm_cons ⟨⟨rfl, Y.m_NoRow, by show (("NoRow" : Str) == "__debug__") = false; decide⟩, Y.o_NoRow, Y.s3⟩ (fm_cons ⟨⟨rfl, Y.m_NoRule, by show (("NoRule" : Str) == "__debug__") = false; decide⟩, Y.o_NoRule, Y.s2⟩ (fm_cons ⟨⟨rfl, Y.m_NoText, by show (("NoText" : Str) == "__debug__") = false; decide⟩, Y.o_NoText, Y.s1⟩ (fm_cons ⟨⟨rfl, Y.m_TooFew, by show (("TooFew" : Str) == "__debug__") = false; decide⟩, Y.o_TooFew, Y.s0⟩ fm_nil))))))) (ch_as (i := 3) rfl rfl rfl sc__law_told.nd rfl rfl Y.m_TooMany Y.n_TooMany (excK_of Y.q_TooMany) Y.m_TooMany (excK_of Y.q_TooMany) Y.s7 fun ev => (css_one (cs_set 2 sc__law_told.nd (ce_idx (CF.ce (cf_lst (ca_cons ce_str (ca_cons ce_non ca_nil)))) (ce_int_ T.n_int (ce_and (ce_isG T.n_isinstance Y.m_OpenError (f_one ⟨_, ⟨Y.n_TooMany, Y.k_TooMany⟩, Y.s8⟩) (ce_var 3)) (ce_one (ce_isGT (Tn := "ValueError") T.n_isinstance T.n_ValueError (by decide +kernel) (f_one ⟨_, ⟨Y.n_TooMany, Y.k_TooMany⟩, Y.s9⟩) (ce_var 3))))))))))))
 (css_one (cs_ret (ce_var 2)))))
theorem sc_law : FnScope n30 n31 (defScope s_law) := ⟨rfl, rfl, rfl, by decide +kernel, rfl, by decide +kernel, by decide +kernel⟩
theorem okV_law {a_law : Addr} {d_law : FuncData} (T : Tx K mg) {e_TooMany e_NoFit e_NoName e_NoNumber e_NoRow e_NoRule e_NoText e_TooFew e_OpenError : Addr} (Y : Ec K mg e_TooMany e_NoFit e_NoName e_NoNumber e_NoRow e_NoRule e_NoText e_TooFew e_OpenError) (g_law : Gf K mg "law" s_law n31 a_law d_law)
  {a__law_cell : Addr} {d__law_cell : FuncData} (g__law_cell : Gf K mg "_law_cell" s__law_cell n22 a__law_cell d__law_cell)
  (GV__law_cell : FnOk P w K mg base CX0 1 a__law_cell d__law_cell n22 (spD K fV__law_cell 2))
  {a__law_p : Addr} {d__law_p : FuncData} (g__law_p : Gf K mg "_law_p" s__law_p n23 a__law_p d__law_p)
  (GV__law_p : FnOk P w K mg base CX0 1 a__law_p d__law_p n23 (spD K fV__law_p 1))
  {a__law_rule : Addr} {d__law_rule : FuncData} (g__law_rule : Gf K mg "_law_rule" s__law_rule n25 a__law_rule d__law_rule)
  (GV__law_rule : FnOk P w K mg base CX0 9 a__law_rule d__law_rule n25 (spD K (fV__law_rule 8) 3))
  {a__law_due : Addr} {d__law_due : FuncData} (g__law_due : Gf K mg "_law_due" s__law_due n28 a__law_due d__law_due)
  (GV__law_due : FnOk P w K mg base CX0 9 a__law_due d__law_due n28 (spD K fV__law_due 2))
  {a__law_told : Addr} {d__law_told : FuncData} (g__law_told : Gf K mg "_law_told" s__law_told n28 a__law_told d__law_told)
  (GV__law_told : FnOk P w K mg base CX0 19 a__law_told d__law_told n28 (spD K fV__law_told 2))
  {a_is_table : Addr} {d_is_table : FuncData} (g_is_table : Gf K mg "is_table" s_is_table n1 a_is_table d_is_table)
  (GV_is_table : FnOk P w K mg base CX0 5 a_is_table d_is_table n1 (spD K fV_is_table 1)) :
  FnOk P w K mg base CX0 20 a_law d_law n31 (spD K fV_law 1) :=
 fn_ok .V g_law.F sc_law fun cdv A outer s H E hr => (css_cons (cs_set 1 sc_law.nd (ce_call GV__law_p (hr.mono (by decide)) g__law_p.m g__law_p.F.kp g__law_p.b (ca_cons (ce_call GV__law_cell (hr.mono (by decide)) g__law_cell.m g__law_cell.F.kp g__law_cell.b (ca_cons (ce_var 0) (ca_cons ce_int ca_nil))) ca_nil)))
 (css_cons (cs_set 2 sc_law.nd (ce_call GV__law_rule (hr.mono (by decide)) g__law_rule.m g__law_rule.F.kp g__law_rule.b (ca_cons (ce_var 0) (ca_cons (CF.cell (cf_lst (ca_cons ce_int (ca_cons ce_int ca_nil)))) (ca_cons ce_int ca_nil)))))
 (css_cons (cs_set 3 sc_law.nd (ce_call GV__law_due (hr.mono (by decide)) g__law_due.m g__law_due.F.kp g__law_due.b (ca_cons (ce_var 1) (ca_cons (ce_var 2) ca_nil))))
 (css_cons (cs_set 4 sc_law.nd (ce_call GV__law_told (hr.mono (by decide)) g__law_told.m g__law_told.F.kp g__law_told.b (ca_cons (ce_var 1) (ca_cons (ce_var 2) ca_nil))))
 (css_cons (cs_if (CW.ct (cw_or (ct_isN (ce_var 3)) (cw_or (ct_isN (ce_var 4)) (cw_one_or (ct_eq hr (ce_var 4) ce_str))))) (css_one (cs_ret (ce_and (ce_isN (ce_var 3)) (ce_one (ce_isN (ce_var 4)))))) css_nil)
 (css_one (cs_ret (ce_and (ce_eq hr (ce_var 4) (ce_var 3)) (ce_one (ce_isB (ce_call GV_is_table (hr.mono (by decide)) g_is_table.m g_is_table.F.kp g_is_table.b (ca_cons (ce_var 4) ca_nil))))))))))))
theorem us1 {us : List Value} (h : us.length = 1) : ∃ a0, us = [a0] := by
 obtain ⟨a0, us, rfl⟩ := us_cons h; rw [List.length_cons] at h; replace h := Nat.succ.inj h; cases List.eq_nil_of_length_eq_zero h; exact ⟨_, rfl⟩
theorem us2 {us : List Value} (h : us.length = 2) : ∃ a0 a1, us = [a0, a1] := by
 obtain ⟨a0, us, rfl⟩ := us_cons h; rw [List.length_cons] at h; replace h := Nat.succ.inj h; obtain ⟨a1, us, rfl⟩ := us_cons h; rw [List.length_cons] at h; replace h := Nat.succ.inj h; cases List.eq_nil_of_length_eq_zero h; exact ⟨_, _, rfl⟩
theorem us3 {us : List Value} (h : us.length = 3) : ∃ a0 a1 a2, us = [a0, a1, a2] := by
 obtain ⟨a0, us, rfl⟩ := us_cons h; rw [List.length_cons] at h; replace h := Nat.succ.inj h; obtain ⟨a1, us, rfl⟩ := us_cons h; rw [List.length_cons] at h; replace h := Nat.succ.inj h; obtain ⟨a2, us, rfl⟩ := us_cons h; rw [List.length_cons] at h; replace h := Nat.succ.inj h; cases List.eq_nil_of_length_eq_zero h; exact ⟨_, _, _, rfl⟩
theorem us4 {us : List Value} (h : us.length = 4) : ∃ a0 a1 a2 a3, us = [a0, a1, a2, a3] := by
 obtain ⟨a0, us, rfl⟩ := us_cons h; rw [List.length_cons] at h; replace h := Nat.succ.inj h; obtain ⟨a1, us, rfl⟩ := us_cons h; rw [List.length_cons] at h; replace h := Nat.succ.inj h; obtain ⟨a2, us, rfl⟩ := us_cons h; rw [List.length_cons] at h; replace h := Nat.succ.inj h; obtain ⟨a3, us, rfl⟩ := us_cons h; rw [List.length_cons] at h; replace h := Nat.succ.inj h; cases List.eq_nil_of_length_eq_zero h; exact ⟨_, _, _, _, rfl⟩
theorem us5 {us : List Value} (h : us.length = 5) : ∃ a0 a1 a2 a3 a4, us = [a0, a1, a2, a3, a4] := by
 obtain ⟨a0, us, rfl⟩ := us_cons h; rw [List.length_cons] at h; replace h := Nat.succ.inj h; obtain ⟨a1, us, rfl⟩ := us_cons h; rw [List.length_cons] at h; replace h := Nat.succ.inj h; obtain ⟨a2, us, rfl⟩ := us_cons h; rw [List.length_cons] at h; replace h := Nat.succ.inj h; obtain ⟨a3, us, rfl⟩ := us_cons h; rw [List.length_cons] at h; replace h := Nat.succ.inj h; obtain ⟨a4, us, rfl⟩ := us_cons h; rw [List.length_cons] at h; replace h := Nat.succ.inj h; cases List.eq_nil_of_length_eq_zero h; exact ⟨_, _, _, _, _, rfl⟩
theorem all_mk {l : PySem.W.OpenLaw} {w : World} {K : PySem.W.Frag} {h : Heap} {mg : Str → Option Value} {fa : Addr} (X : K.In h) (G : h.Ns mainGlobals mg) (hfa : mg "law" = some (.ref fa))
  {f0 f1 f2 f3 f4 f5 f6 f7 f8 f9 f10 f11 f12 f13 f14 f15 f16 f17 f18 f19 f20 : Addr} {od0 an0 od1 an1 od2 an2 od3 an3 od4 an4 od5 an5 od6 an6 od7 an7 od8 an8 od9 an9 od10 an10 od11 an11 od12 an12 od13 an13 od14 an14 od15 an15 od16 an16 od17 an17 od18 an18 od19 an19 od20 an20 : Option Addr} {sl0 sl1 sl2 sl3 sl4 sl5 sl6 sl7 sl8 sl9 sl10 sl11 sl12 sl13 sl14 sl15 sl16 sl17 sl18 sl19 sl20 : Array (Option Value)} {oc0 kV0 dc0 pm0 cd0 ct0 oc1 kV1 dc1 pm1 cd1 ct1 oc2 kV2 dc2 pm2 cd2 ct2 oc3 kV3 dc3 pm3 cd3 ct3 oc4 kV4 dc4 pm4 cd4 ct4 oc5 kV5 dc5 pm5 cd5 ct5 oc6 kV6 dc6 pm6 cd6 ct6 oc7 kV7 dc7 pm7 cd7 ct7 oc8 kV8 dc8 pm8 cd8 ct8 oc9 kV9 dc9 pm9 cd9 ct9 oc10 kV10 dc10 pm10 cd10 ct10 oc11 kV11 dc11 pm11 cd11 ct11 oc12 kV12 dc12 pm12 cd12 ct12 oc13 kV13 dc13 pm13 cd13 ct13 oc14 kV14 dc14 pm14 cd14 ct14 oc15 kV15 dc15 pm15 cd15 ct15 oc16 kV16 dc16 pm16 cd16 ct16 oc17 kV17 dc17 pm17 cd17 ct17 oc18 kV18 dc18 pm18 cd18 ct18 oc19 kV19 dc19 pm19 cd19 ct19 oc20 kV20 dc20 pm20 cd20 ct20 : Value}
  (a0 : PySem.W.nsIn K mainGlobals "is_whole" = some (some (.ref f0))) (l0 : K.lookup f0 = some ⟨oc0, od0, .func (PySem.W.fnOf "is_whole" "is_whole" (defArgs s_is_whole) (defBody s_is_whole) (defScope s_is_whole) .none kV0 dc0 pm0 an0 cd0 ct0), sl0⟩) (c0 : PySem.W.codeIn K cd0 "is_whole" = true) (k0 : PySem.W.keepIn K (.ref f0) = true)
  (a1 : PySem.W.nsIn K mainGlobals "is_prime" = some (some (.ref f1))) (l1 : K.lookup f1 = some ⟨oc1, od1, .func (PySem.W.fnOf "is_prime" "is_prime" (defArgs s_is_prime) (defBody s_is_prime) (defScope s_is_prime) .none kV1 dc1 pm1 an1 cd1 ct1), sl1⟩) (c1 : PySem.W.codeIn K cd1 "is_prime" = true) (k1 : PySem.W.keepIn K (.ref f1) = true)
  (a2 : PySem.W.nsIn K mainGlobals "is_hand" = some (some (.ref f2))) (l2 : K.lookup f2 = some ⟨oc2, od2, .func (PySem.W.fnOf "is_hand" "is_hand" (defArgs s_is_hand) (defBody s_is_hand) (defScope s_is_hand) .none kV2 dc2 pm2 an2 cd2 ct2), sl2⟩) (c2 : PySem.W.codeIn K cd2 "is_hand" = true) (k2 : PySem.W.keepIn K (.ref f2) = true)
  (a3 : PySem.W.nsIn K mainGlobals "is_from_to" = some (some (.ref f3))) (l3 : K.lookup f3 = some ⟨oc3, od3, .func (PySem.W.fnOf "is_from_to" "is_from_to" (defArgs s_is_from_to) (defBody s_is_from_to) (defScope s_is_from_to) .none kV3 dc3 pm3 an3 cd3 ct3), sl3⟩) (c3 : PySem.W.codeIn K cd3 "is_from_to" = true) (k3 : PySem.W.keepIn K (.ref f3) = true)
  (a4 : PySem.W.nsIn K mainGlobals "is_tuple_of" = some (some (.ref f4))) (l4 : K.lookup f4 = some ⟨oc4, od4, .func (PySem.W.fnOf "is_tuple_of" "is_tuple_of" (defArgs s_is_tuple_of) (defBody s_is_tuple_of) (defScope s_is_tuple_of) .none kV4 dc4 pm4 an4 cd4 ct4), sl4⟩) (c4 : PySem.W.codeIn K cd4 "is_tuple_of" = true) (k4 : PySem.W.keepIn K (.ref f4) = true)
  (a5 : PySem.W.nsIn K mainGlobals "is_line" = some (some (.ref f5))) (l5 : K.lookup f5 = some ⟨oc5, od5, .func (PySem.W.fnOf "is_line" "is_line" (defArgs s_is_line) (defBody s_is_line) (defScope s_is_line) .none kV5 dc5 pm5 an5 cd5 ct5), sl5⟩) (c5 : PySem.W.codeIn K cd5 "is_line" = true) (k5 : PySem.W.keepIn K (.ref f5) = true)
  (a6 : PySem.W.nsIn K mainGlobals "is_row" = some (some (.ref f6))) (l6 : K.lookup f6 = some ⟨oc6, od6, .func (PySem.W.fnOf "is_row" "is_row" (defArgs s_is_row) (defBody s_is_row) (defScope s_is_row) .none kV6 dc6 pm6 an6 cd6 ct6), sl6⟩) (c6 : PySem.W.codeIn K cd6 "is_row" = true) (k6 : PySem.W.keepIn K (.ref f6) = true)
  (a7 : PySem.W.nsIn K mainGlobals "is_table" = some (some (.ref f7))) (l7 : K.lookup f7 = some ⟨oc7, od7, .func (PySem.W.fnOf "is_table" "is_table" (defArgs s_is_table) (defBody s_is_table) (defScope s_is_table) .none kV7 dc7 pm7 an7 cd7 ct7), sl7⟩) (c7 : PySem.W.codeIn K cd7 "is_table" = true) (k7 : PySem.W.keepIn K (.ref f7) = true)
  (a8 : PySem.W.nsIn K mainGlobals "own_places" = some (some (.ref f8))) (l8 : K.lookup f8 = some ⟨oc8, od8, .func (PySem.W.fnOf "own_places" "own_places" (defArgs s_own_places) (defBody s_own_places) (defScope s_own_places) .none kV8 dc8 pm8 an8 cd8 ct8), sl8⟩) (c8 : PySem.W.codeIn K cd8 "own_places" = true) (k8 : PySem.W.keepIn K (.ref f8) = true)
  (a9 : PySem.W.nsIn K mainGlobals "places_taken" = some (some (.ref f9))) (l9 : K.lookup f9 = some ⟨oc9, od9, .func (PySem.W.fnOf "places_taken" "places_taken" (defArgs s_places_taken) (defBody s_places_taken) (defScope s_places_taken) .none kV9 dc9 pm9 an9 cd9 ct9), sl9⟩) (c9 : PySem.W.codeIn K cd9 "places_taken" = true) (k9 : PySem.W.keepIn K (.ref f9) = true)
  (a10 : PySem.W.nsIn K mainGlobals "is_crowded" = some (some (.ref f10))) (l10 : K.lookup f10 = some ⟨oc10, od10, .func (PySem.W.fnOf "is_crowded" "is_crowded" (defArgs s_is_crowded) (defBody s_is_crowded) (defScope s_is_crowded) .none kV10 dc10 pm10 an10 cd10 ct10), sl10⟩) (c10 : PySem.W.codeIn K cd10 "is_crowded" = true) (k10 : PySem.W.keepIn K (.ref f10) = true)
  (a11 : PySem.W.nsIn K mainGlobals "with_powers" = some (some (.ref f11))) (l11 : K.lookup f11 = some ⟨oc11, od11, .func (PySem.W.fnOf "with_powers" "with_powers" (defArgs s_with_powers) (defBody s_with_powers) (defScope s_with_powers) .none kV11 dc11 pm11 an11 cd11 ct11), sl11⟩) (c11 : PySem.W.codeIn K cd11 "with_powers" = true) (k11 : PySem.W.keepIn K (.ref f11) = true)
  (a12 : PySem.W.nsIn K mainGlobals "rows_made" = some (some (.ref f12))) (l12 : K.lookup f12 = some ⟨oc12, od12, .func (PySem.W.fnOf "rows_made" "rows_made" (defArgs s_rows_made) (defBody s_rows_made) (defScope s_rows_made) .none kV12 dc12 pm12 an12 cd12 ct12), sl12⟩) (c12 : PySem.W.codeIn K cd12 "rows_made" = true) (k12 : PySem.W.keepIn K (.ref f12) = true)
  (a13 : PySem.W.nsIn K mainGlobals "table_of" = some (some (.ref f13))) (l13 : K.lookup f13 = some ⟨oc13, od13, .func (PySem.W.fnOf "table_of" "table_of" (defArgs s_table_of) (defBody s_table_of) (defScope s_table_of) .none kV13 dc13 pm13 an13 cd13 ct13), sl13⟩) (c13 : PySem.W.codeIn K cd13 "table_of" = true) (k13 : PySem.W.keepIn K (.ref f13) = true)
  (a14 : PySem.W.nsIn K mainGlobals "_law_cell" = some (some (.ref f14))) (l14 : K.lookup f14 = some ⟨oc14, od14, .func (PySem.W.fnOf "_law_cell" "_law_cell" (defArgs s__law_cell) (defBody s__law_cell) (defScope s__law_cell) .none kV14 dc14 pm14 an14 cd14 ct14), sl14⟩) (c14 : PySem.W.codeIn K cd14 "_law_cell" = true) (k14 : PySem.W.keepIn K (.ref f14) = true)
  (a15 : PySem.W.nsIn K mainGlobals "_law_p" = some (some (.ref f15))) (l15 : K.lookup f15 = some ⟨oc15, od15, .func (PySem.W.fnOf "_law_p" "_law_p" (defArgs s__law_p) (defBody s__law_p) (defScope s__law_p) .none kV15 dc15 pm15 an15 cd15 ct15), sl15⟩) (c15 : PySem.W.codeIn K cd15 "_law_p" = true) (k15 : PySem.W.keepIn K (.ref f15) = true)
  (a16 : PySem.W.nsIn K mainGlobals "_law_rule" = some (some (.ref f16))) (l16 : K.lookup f16 = some ⟨oc16, od16, .func (PySem.W.fnOf "_law_rule" "_law_rule" (defArgs s__law_rule) (defBody s__law_rule) (defScope s__law_rule) .none kV16 dc16 pm16 an16 cd16 ct16), sl16⟩) (c16 : PySem.W.codeIn K cd16 "_law_rule" = true) (k16 : PySem.W.keepIn K (.ref f16) = true)
  (a17 : PySem.W.nsIn K mainGlobals "_law_laid" = some (some (.ref f17))) (l17 : K.lookup f17 = some ⟨oc17, od17, .func (PySem.W.fnOf "_law_laid" "_law_laid" (defArgs s__law_laid) (defBody s__law_laid) (defScope s__law_laid) .none kV17 dc17 pm17 an17 cd17 ct17), sl17⟩) (c17 : PySem.W.codeIn K cd17 "_law_laid" = true) (k17 : PySem.W.keepIn K (.ref f17) = true)
  (a18 : PySem.W.nsIn K mainGlobals "_law_due" = some (some (.ref f18))) (l18 : K.lookup f18 = some ⟨oc18, od18, .func (PySem.W.fnOf "_law_due" "_law_due" (defArgs s__law_due) (defBody s__law_due) (defScope s__law_due) .none kV18 dc18 pm18 an18 cd18 ct18), sl18⟩) (c18 : PySem.W.codeIn K cd18 "_law_due" = true) (k18 : PySem.W.keepIn K (.ref f18) = true)
  (a19 : PySem.W.nsIn K mainGlobals "_law_told" = some (some (.ref f19))) (l19 : K.lookup f19 = some ⟨oc19, od19, .func (PySem.W.fnOf "_law_told" "_law_told" (defArgs s__law_told) (defBody s__law_told) (defScope s__law_told) .none kV19 dc19 pm19 an19 cd19 ct19), sl19⟩) (c19 : PySem.W.codeIn K cd19 "_law_told" = true) (k19 : PySem.W.keepIn K (.ref f19) = true)
  (a20 : PySem.W.nsIn K mainGlobals "law" = some (some (.ref f20))) (l20 : K.lookup f20 = some ⟨oc20, od20, .func (PySem.W.fnOf "law" "law" (defArgs s_law) (defBody s_law) (defScope s_law) .none kV20 dc20 pm20 an20 cd20 ct20), sl20⟩) (c20 : PySem.W.codeIn K cd20 "law" = true) (k20 : PySem.W.keepIn K (.ref f20) = true)
  (z0 : PySem.W.nsIn K mainGlobals "ValueError" = some none)
  (z1 : PySem.W.nsIn K mainGlobals "all" = some none)
  (z2 : PySem.W.nsIn K mainGlobals "any" = some none)
  (z3 : PySem.W.nsIn K mainGlobals "bool" = some none)
  (z4 : PySem.W.nsIn K mainGlobals "dict" = some none)
  (z5 : PySem.W.nsIn K mainGlobals "enumerate" = some none)
  (z6 : PySem.W.nsIn K mainGlobals "int" = some none)
  (z7 : PySem.W.nsIn K mainGlobals "isinstance" = some none)
  (z8 : PySem.W.nsIn K mainGlobals "len" = some none)
  (z9 : PySem.W.nsIn K mainGlobals "list" = some none)
  (z10 : PySem.W.nsIn K mainGlobals "max" = some none)
  (z11 : PySem.W.nsIn K mainGlobals "min" = some none)
  (z12 : PySem.W.nsIn K mainGlobals "range" = some none)
  (z13 : PySem.W.nsIn K mainGlobals "sum" = some none)
  (z14 : PySem.W.nsIn K mainGlobals "tuple" = some none)
  {tk0 : Nat} (y0 : PySem.W.nsIn K mainGlobals "GREATEST_HAND" = some (some (.int 9 tk0)))
  {tk1 : Nat} (y1 : PySem.W.nsIn K mainGlobals "GREATEST_P" = some (some (.int 97 tk1)))
  {tk2 : Nat} (y2 : PySem.W.nsIn K mainGlobals "MOST_ROWS" = some (some (.int 24 tk2)))
  {tk3 : Nat} (y3 : PySem.W.nsIn K mainGlobals "MOST_WIDE" = some (some (.int 12 tk3)))
  {e_TooMany e_NoFit e_NoName e_NoNumber e_NoRow e_NoRule e_NoText e_TooFew e_OpenError : Addr}
  {N_NoFit : Addr} {nm_NoFit qn_NoFit : Str} {bs_NoFit bm_NoFit sub_NoFit : List Value} {hd_NoFit ab_NoFit : Bool} {sn_NoFit : List Str} {col_NoFit : Option Bool} {dd_NoFit : Option Addr} {k0_NoFit k1_NoFit k2_NoFit k3_NoFit k5_NoFit : Option Value} {id_NoFit : String}
  {N_NoName : Addr} {nm_NoName qn_NoName : Str} {bs_NoName bm_NoName sub_NoName : List Value} {hd_NoName ab_NoName : Bool} {sn_NoName : List Str} {col_NoName : Option Bool} {dd_NoName : Option Addr} {k0_NoName k1_NoName k2_NoName k3_NoName k5_NoName : Option Value} {id_NoName : String}
  {N_NoNumber : Addr} {nm_NoNumber qn_NoNumber : Str} {bs_NoNumber bm_NoNumber sub_NoNumber : List Value} {hd_NoNumber ab_NoNumber : Bool} {sn_NoNumber : List Str} {col_NoNumber : Option Bool} {dd_NoNumber : Option Addr} {k0_NoNumber k1_NoNumber k2_NoNumber k3_NoNumber k5_NoNumber : Option Value} {id_NoNumber : String}
  {N_NoRow : Addr} {nm_NoRow qn_NoRow : Str} {bs_NoRow bm_NoRow sub_NoRow : List Value} {hd_NoRow ab_NoRow : Bool} {sn_NoRow : List Str} {col_NoRow : Option Bool} {dd_NoRow : Option Addr} {k0_NoRow k1_NoRow k2_NoRow k3_NoRow k5_NoRow : Option Value} {id_NoRow : String}
  {N_NoRule : Addr} {nm_NoRule qn_NoRule : Str} {bs_NoRule bm_NoRule sub_NoRule : List Value} {hd_NoRule ab_NoRule : Bool} {sn_NoRule : List Str} {col_NoRule : Option Bool} {dd_NoRule : Option Addr} {k0_NoRule k1_NoRule k2_NoRule k3_NoRule k5_NoRule : Option Value} {id_NoRule : String}
  {N_NoText : Addr} {nm_NoText qn_NoText : Str} {bs_NoText bm_NoText sub_NoText : List Value} {hd_NoText ab_NoText : Bool} {sn_NoText : List Str} {col_NoText : Option Bool} {dd_NoText : Option Addr} {k0_NoText k1_NoText k2_NoText k3_NoText k5_NoText : Option Value} {id_NoText : String}
  {N_TooFew : Addr} {nm_TooFew qn_TooFew : Str} {bs_TooFew bm_TooFew sub_TooFew : List Value} {hd_TooFew ab_TooFew : Bool} {sn_TooFew : List Str} {col_TooFew : Option Bool} {dd_TooFew : Option Addr} {k0_TooFew k1_TooFew k2_TooFew k3_TooFew k5_TooFew : Option Value} {id_TooFew : String}
  (x0 : PySem.W.specialIn K (.builtin "object.__class__") "__get__" = some (some (.builtin "getset_descriptor.__get__")))
  (x1 : PySem.W.takesIn K (.builtin "object.__class__") = some true)
  (x2 : PySem.W.nsIn K mainGlobals "TooMany" = some (some (.ref e_TooMany)))
  (x3 : PySem.W.excIn K e_TooMany [.type "ValueError", .type "Exception", .type "BaseException", .type "object"] "ValueError.__new__" = true)
  (x4 : PySem.W.findIn K (.ref e_TooMany) "__getattribute__" = some (some (.builtin "BaseException.__getattribute__")))
  (x5 : PySem.W.findIn K (.ref e_TooMany) "__getattr__" = some none)
  (x6 : PySem.W.findIn K (.ref e_TooMany) "__class__" = some (some (.builtin "object.__class__")))
  (x7 : PySem.W.mroIn K e_TooMany (.type "object") = some true)
  (x8 : PySem.W.mroIn K e_TooMany (.type "BaseException") = some true)
  (x9 : PySem.W.nsIn K mainGlobals "NoFit" = some (some (.ref e_NoFit)))
  (x10 : K.lookup e_NoFit = some ⟨.type "type", dd_NoFit, .cls ⟨nm_NoFit, bs_NoFit, .ref e_NoFit :: bm_NoFit, N_NoFit, qn_NoFit, hd_NoFit, sn_NoFit, sub_NoFit, ab_NoFit, col_NoFit, false⟩, #[k0_NoFit, k1_NoFit, k2_NoFit, k3_NoFit, some (.builtin id_NoFit), k5_NoFit]⟩)
  (x11 : PySem.W.mroIn K e_NoFit (.type "BaseException") = some true)
  (x12 : PySem.W.nsIn K mainGlobals "NoName" = some (some (.ref e_NoName)))
  (x13 : K.lookup e_NoName = some ⟨.type "type", dd_NoName, .cls ⟨nm_NoName, bs_NoName, .ref e_NoName :: bm_NoName, N_NoName, qn_NoName, hd_NoName, sn_NoName, sub_NoName, ab_NoName, col_NoName, false⟩, #[k0_NoName, k1_NoName, k2_NoName, k3_NoName, some (.builtin id_NoName), k5_NoName]⟩)
  (x14 : PySem.W.mroIn K e_NoName (.type "BaseException") = some true)
  (x15 : PySem.W.nsIn K mainGlobals "NoNumber" = some (some (.ref e_NoNumber)))
  (x16 : K.lookup e_NoNumber = some ⟨.type "type", dd_NoNumber, .cls ⟨nm_NoNumber, bs_NoNumber, .ref e_NoNumber :: bm_NoNumber, N_NoNumber, qn_NoNumber, hd_NoNumber, sn_NoNumber, sub_NoNumber, ab_NoNumber, col_NoNumber, false⟩, #[k0_NoNumber, k1_NoNumber, k2_NoNumber, k3_NoNumber, some (.builtin id_NoNumber), k5_NoNumber]⟩)
  (x17 : PySem.W.mroIn K e_NoNumber (.type "BaseException") = some true)
  (x18 : PySem.W.nsIn K mainGlobals "NoRow" = some (some (.ref e_NoRow)))
  (x19 : K.lookup e_NoRow = some ⟨.type "type", dd_NoRow, .cls ⟨nm_NoRow, bs_NoRow, .ref e_NoRow :: bm_NoRow, N_NoRow, qn_NoRow, hd_NoRow, sn_NoRow, sub_NoRow, ab_NoRow, col_NoRow, false⟩, #[k0_NoRow, k1_NoRow, k2_NoRow, k3_NoRow, some (.builtin id_NoRow), k5_NoRow]⟩)
  (x20 : PySem.W.mroIn K e_NoRow (.type "BaseException") = some true)
  (x21 : PySem.W.nsIn K mainGlobals "NoRule" = some (some (.ref e_NoRule)))
  (x22 : K.lookup e_NoRule = some ⟨.type "type", dd_NoRule, .cls ⟨nm_NoRule, bs_NoRule, .ref e_NoRule :: bm_NoRule, N_NoRule, qn_NoRule, hd_NoRule, sn_NoRule, sub_NoRule, ab_NoRule, col_NoRule, false⟩, #[k0_NoRule, k1_NoRule, k2_NoRule, k3_NoRule, some (.builtin id_NoRule), k5_NoRule]⟩)
  (x23 : PySem.W.mroIn K e_NoRule (.type "BaseException") = some true)
  (x24 : PySem.W.nsIn K mainGlobals "NoText" = some (some (.ref e_NoText)))
  (x25 : K.lookup e_NoText = some ⟨.type "type", dd_NoText, .cls ⟨nm_NoText, bs_NoText, .ref e_NoText :: bm_NoText, N_NoText, qn_NoText, hd_NoText, sn_NoText, sub_NoText, ab_NoText, col_NoText, false⟩, #[k0_NoText, k1_NoText, k2_NoText, k3_NoText, some (.builtin id_NoText), k5_NoText]⟩)
  (x26 : PySem.W.mroIn K e_NoText (.type "BaseException") = some true)
  (x27 : PySem.W.nsIn K mainGlobals "TooFew" = some (some (.ref e_TooFew)))
  (x28 : K.lookup e_TooFew = some ⟨.type "type", dd_TooFew, .cls ⟨nm_TooFew, bs_TooFew, .ref e_TooFew :: bm_TooFew, N_TooFew, qn_TooFew, hd_TooFew, sn_TooFew, sub_TooFew, ab_TooFew, col_TooFew, false⟩, #[k0_TooFew, k1_TooFew, k2_TooFew, k3_TooFew, some (.builtin id_TooFew), k5_TooFew]⟩)
  (x29 : PySem.W.mroIn K e_TooFew (.type "BaseException") = some true)
  (x30 : PySem.W.nsIn K mainGlobals "OpenError" = some (some (.ref e_OpenError)))
  (x31 : PySem.W.mroIn K e_TooMany (.ref e_TooFew) = some false)
  (x32 : PySem.W.mroIn K e_TooMany (.ref e_NoText) = some false)
  (x33 : PySem.W.mroIn K e_TooMany (.ref e_NoRule) = some false)
  (x34 : PySem.W.mroIn K e_TooMany (.ref e_NoRow) = some false)
  (x35 : PySem.W.mroIn K e_TooMany (.ref e_NoNumber) = some false)
  (x36 : PySem.W.mroIn K e_TooMany (.ref e_NoName) = some false)
  (x37 : PySem.W.mroIn K e_TooMany (.ref e_NoFit) = some false)
  (x38 : PySem.W.mroIn K e_TooMany (.ref e_TooMany) = some true)
  (x39 : PySem.W.kitOne K (.ref e_TooMany) (.ref e_OpenError) = some true)
  (x40 : PySem.W.kitOne K (.ref e_TooMany) (.type "ValueError") = some true)
  : ∃ fd : FuncData, (∀ (s : Shared) (v : Value), BindsTo s fd ⟨[v], []⟩ [("_law_script", v)]) ∧ ∀ base : Heap, K.In base → base.Ns mainGlobals mg → FnOk l.prog w K mg base CX0 20 fa fd ["_law_script"] (spD K fV_law 1) := by
 have e := hfa.symm.trans (PySem.W.mg_of X G a20)
 cases e
 have T : Tx K mg := ⟨PySem.W.mg_none_of X G z0, PySem.W.mg_none_of X G z1, PySem.W.mg_none_of X G z2, PySem.W.mg_none_of X G z3, PySem.W.mg_none_of X G z4, PySem.W.mg_none_of X G z5, PySem.W.mg_none_of X G z6, PySem.W.mg_none_of X G z7, PySem.W.mg_none_of X G z8, PySem.W.mg_none_of X G z9, PySem.W.mg_none_of X G z10, PySem.W.mg_none_of X G z11, PySem.W.mg_none_of X G z12, PySem.W.mg_none_of X G z13, PySem.W.mg_none_of X G z14, ⟨_, PySem.W.mg_of X G y0⟩, ⟨_, PySem.W.mg_of X G y1⟩, ⟨_, PySem.W.mg_of X G y2⟩, ⟨_, PySem.W.mg_of X G y3⟩⟩
 have Y : Ec K mg e_TooMany e_NoFit e_NoName e_NoNumber e_NoRow e_NoRule e_NoText e_TooFew e_OpenError := ⟨PySem.W.mg_of X G x2, x2, x3, ⟨⟨x4, x5, x6, x0, x1, x7, x8⟩, cls_of x7⟩, PySem.W.mg_of X G x9, x9, ownK_of x10 x11, PySem.W.mg_of X G x12, x12, ownK_of x13 x14, PySem.W.mg_of X G x15, x15, ownK_of x16 x17, PySem.W.mg_of X G x18, x18, ownK_of x19 x20, PySem.W.mg_of X G x21, x21, ownK_of x22 x23, PySem.W.mg_of X G x24, x24, ownK_of x25 x26, PySem.W.mg_of X G x27, x27, ownK_of x28 x29, PySem.W.mg_of X G x30, x30, mroK_of x31, mroK_of x32, mroK_of x33, mroK_of x34, mroK_of x35, mroK_of x36, mroK_of x37, mroK_of x38, x39, x40⟩
 have F0 := fun_mk (st := s_is_whole) l0 c0 k0
 have g0 : Gf K mg "is_whole" s_is_whole ["thing"] _ _ := ⟨F0, F0.binds (ps := ["thing"]) fun _ _ _ _ _ _ us hl => by obtain ⟨_, rfl⟩ := us1 hl; rfl, PySem.W.mg_of X G a0⟩
 have F1 := fun_mk (st := s_is_prime) l1 c1 k1
 have g1 : Gf K mg "is_prime" s_is_prime ["thing"] _ _ := ⟨F1, F1.binds (ps := ["thing"]) fun _ _ _ _ _ _ us hl => by obtain ⟨_, rfl⟩ := us1 hl; rfl, PySem.W.mg_of X G a1⟩
 have F2 := fun_mk (st := s_is_hand) l2 c2 k2
 have g2 : Gf K mg "is_hand" s_is_hand ["rule"] _ _ := ⟨F2, F2.binds (ps := ["rule"]) fun _ _ _ _ _ _ us hl => by obtain ⟨_, rfl⟩ := us1 hl; rfl, PySem.W.mg_of X G a2⟩
 have F3 := fun_mk (st := s_is_from_to) l3 c3 k3
 have g3 : Gf K mg "is_from_to" s_is_from_to ["thing", "least", "greatest"] _ _ := ⟨F3, F3.binds (ps := ["thing", "least", "greatest"]) fun _ _ _ _ _ _ us hl => by obtain ⟨_, _, _, rfl⟩ := us3 hl; rfl, PySem.W.mg_of X G a3⟩
 have F4 := fun_mk (st := s_is_tuple_of) l4 c4 k4
 have g4 : Gf K mg "is_tuple_of" s_is_tuple_of ["thing", "many"] _ _ := ⟨F4, F4.binds (ps := ["thing", "many"]) fun _ _ _ _ _ _ us hl => by obtain ⟨_, _, rfl⟩ := us2 hl; rfl, PySem.W.mg_of X G a4⟩
 have F5 := fun_mk (st := s_is_line) l5 c5 k5
 have g5 : Gf K mg "is_line" s_is_line ["thing", "p", "width"] _ _ := ⟨F5, F5.binds (ps := ["thing", "p", "width"]) fun _ _ _ _ _ _ us hl => by obtain ⟨_, _, _, rfl⟩ := us3 hl; rfl, PySem.W.mg_of X G a5⟩
 have F6 := fun_mk (st := s_is_row) l6 c6 k6
 have g6 : Gf K mg "is_row" s_is_row ["thing", "p", "wide"] _ _ := ⟨F6, F6.binds (ps := ["thing", "p", "wide"]) fun _ _ _ _ _ _ us hl => by obtain ⟨_, _, _, rfl⟩ := us3 hl; rfl, PySem.W.mg_of X G a6⟩
 have F7 := fun_mk (st := s_is_table) l7 c7 k7
 have g7 : Gf K mg "is_table" s_is_table ["thing"] _ _ := ⟨F7, F7.binds (ps := ["thing"]) fun _ _ _ _ _ _ us hl => by obtain ⟨_, rfl⟩ := us1 hl; rfl, PySem.W.mg_of X G a7⟩
 have F8 := fun_mk (st := s_own_places) l8 c8 k8
 have g8 : Gf K mg "own_places" s_own_places ["some"] _ _ := ⟨F8, F8.binds (ps := ["some"]) fun _ _ _ _ _ _ us hl => by obtain ⟨_, rfl⟩ := us1 hl; rfl, PySem.W.mg_of X G a8⟩
 have F9 := fun_mk (st := s_places_taken) l9 c9 k9
 have g9 : Gf K mg "places_taken" s_places_taken ["rule"] _ _ := ⟨F9, F9.binds (ps := ["rule"]) fun _ _ _ _ _ _ us hl => by obtain ⟨_, rfl⟩ := us1 hl; rfl, PySem.W.mg_of X G a9⟩
 have F10 := fun_mk (st := s_is_crowded) l10 c10 k10
 have g10 : Gf K mg "is_crowded" s_is_crowded ["p", "rule"] _ _ := ⟨F10, F10.binds (ps := ["p", "rule"]) fun _ _ _ _ _ _ us hl => by obtain ⟨_, _, rfl⟩ := us2 hl; rfl, PySem.W.mg_of X G a10⟩
 have F11 := fun_mk (st := s_with_powers) l11 c11 k11
 have g11 : Gf K mg "with_powers" s_with_powers ["p", "line", "first", "many", "number"] _ _ := ⟨F11, F11.binds (ps := ["p", "line", "first", "many", "number"]) fun _ _ _ _ _ _ us hl => by obtain ⟨_, _, _, _, _, rfl⟩ := us5 hl; rfl, PySem.W.mg_of X G a11⟩
 have F12 := fun_mk (st := s_rows_made) l12 c12 k12
 have g12 : Gf K mg "rows_made" s_rows_made ["p", "rule", "line", "unused"] _ _ := ⟨F12, F12.binds (ps := ["p", "rule", "line", "unused"]) fun _ _ _ _ _ _ us hl => by obtain ⟨_, _, _, _, rfl⟩ := us4 hl; rfl, PySem.W.mg_of X G a12⟩
 have F13 := fun_mk (st := s_table_of) l13 c13 k13
 have g13 : Gf K mg "table_of" s_table_of ["p", "rule"] _ _ := ⟨F13, F13.binds (ps := ["p", "rule"]) fun _ _ _ _ _ _ us hl => by obtain ⟨_, _, rfl⟩ := us2 hl; rfl, PySem.W.mg_of X G a13⟩
 have F14 := fun_mk (st := s__law_cell) l14 c14 k14
 have g14 : Gf K mg "_law_cell" s__law_cell ["_law_script", "_law_k"] _ _ := ⟨F14, F14.binds (ps := ["_law_script", "_law_k"]) fun _ _ _ _ _ _ us hl => by obtain ⟨_, _, rfl⟩ := us2 hl; rfl, PySem.W.mg_of X G a14⟩
 have F15 := fun_mk (st := s__law_p) l15 c15 k15
 have g15 : Gf K mg "_law_p" s__law_p ["_law_cell_here"] _ _ := ⟨F15, F15.binds (ps := ["_law_cell_here"]) fun _ _ _ _ _ _ us hl => by obtain ⟨_, rfl⟩ := us1 hl; rfl, PySem.W.mg_of X G a15⟩
 have F16 := fun_mk (st := s__law_rule) l16 c16 k16
 have g16 : Gf K mg "_law_rule" s__law_rule ["_law_script", "_law_state", "_law_deep"] _ _ := ⟨F16, F16.binds (ps := ["_law_script", "_law_state", "_law_deep"]) fun _ _ _ _ _ _ us hl => by obtain ⟨_, _, _, rfl⟩ := us3 hl; rfl, PySem.W.mg_of X G a16⟩
 have F17 := fun_mk (st := s__law_laid) l17 c17 k17
 have g17 : Gf K mg "_law_laid" s__law_laid ["_law_p_here", "_law_rule_here", "_law_line", "_law_state", "_law_rows"] _ _ := ⟨F17, F17.binds (ps := ["_law_p_here", "_law_rule_here", "_law_line", "_law_state", "_law_rows"]) fun _ _ _ _ _ _ us hl => by obtain ⟨_, _, _, _, _, rfl⟩ := us5 hl; rfl, PySem.W.mg_of X G a17⟩
 have F18 := fun_mk (st := s__law_due) l18 c18 k18
 have g18 : Gf K mg "_law_due" s__law_due ["_law_p_here", "_law_rule_here"] _ _ := ⟨F18, F18.binds (ps := ["_law_p_here", "_law_rule_here"]) fun _ _ _ _ _ _ us hl => by obtain ⟨_, _, rfl⟩ := us2 hl; rfl, PySem.W.mg_of X G a18⟩
 have F19 := fun_mk (st := s__law_told) l19 c19 k19
 have g19 : Gf K mg "_law_told" s__law_told ["_law_p_here", "_law_rule_here"] _ _ := ⟨F19, F19.binds (ps := ["_law_p_here", "_law_rule_here"]) fun _ _ _ _ _ _ us hl => by obtain ⟨_, _, rfl⟩ := us2 hl; rfl, PySem.W.mg_of X G a19⟩
 have F20 := fun_mk (st := s_law) l20 c20 k20
 have g20 : Gf K mg "law" s_law ["_law_script"] _ _ := ⟨F20, F20.binds (ps := ["_law_script"]) fun _ _ _ _ _ _ us hl => by obtain ⟨_, rfl⟩ := us1 hl; rfl, PySem.W.mg_of X G a20⟩
 refine ⟨PySem.W.fnOf "law" "law" (defArgs s_law) (defBody s_law) (defScope s_law) .none kV20 dc20 pm20 an20 cd20 ct20, fun s v => .of_eq rfl, fun base _ _ => ?_⟩
 have oV0 := okV_is_whole (P := l.prog) (w := w) (base := base) T Y g0
 have oV1 := okV_is_prime (P := l.prog) (w := w) (base := base) T Y g1 g0 oV0
 have oV2 := okV_is_hand (P := l.prog) (w := w) (base := base) T Y g2
 have oV3 := okV_is_from_to (P := l.prog) (w := w) (base := base) T Y g3 g0 oV0
 have oV4 := okV_is_tuple_of (P := l.prog) (w := w) (base := base) T Y g4
 have oV5 := okV_is_line (P := l.prog) (w := w) (base := base) T Y g5 g4 oV4 g3 oV3
 have oV6 := okV_is_row (P := l.prog) (w := w) (base := base) T Y g6 g4 oV4 g3 oV3 g5 oV5
 have oV7 := okV_is_table (P := l.prog) (w := w) (base := base) T Y g7 g4 oV4 g1 oV1 g3 oV3 g6 oV6
 have oV8 := okV_own_places (P := l.prog) (w := w) (base := base) T Y g8
 have oV9 := (okR_places_taken (P := l.prog) (w := w) (base := base) T Y g9 g2 oV2 g8 oV8 8)
 have oV10 := (okR_is_crowded (P := l.prog) (w := w) (base := base) T Y g10 g2 oV2 8)
 have oV11 := okV_with_powers (P := l.prog) (w := w) (base := base) T Y g11
 have oV12 := (okR_rows_made (P := l.prog) (w := w) (base := base) T Y g12 g2 oV2 g8 oV8 g11 oV11 g9 oV9 8)
 have oV13 := okV_table_of (P := l.prog) (w := w) (base := base) T Y g13 g9 oV9 g10 oV10 g12 oV12
 have oX13 := okX_table_of (P := l.prog) (w := w) (base := base) T Y g13 g12 oV12 g9 oV9 g10 oV10
 have oV14 := okV__law_cell (P := l.prog) (w := w) (base := base) T Y g14
 have oV15 := okV__law_p (P := l.prog) (w := w) (base := base) T Y g15
 have oV16 := (okR__law_rule (P := l.prog) (w := w) (base := base) T Y g16 g14 oV14 8)
 have oV17 := (okR__law_laid (P := l.prog) (w := w) (base := base) T Y g17 8)
 have oV18 := okV__law_due (P := l.prog) (w := w) (base := base) T Y g18 g17 oV17
 have oV19 := okV__law_told (P := l.prog) (w := w) (base := base) T Y g19 g13 oX13
 have oV20 := okV_law (P := l.prog) (w := w) (base := base) T Y g20 g14 oV14 g15 oV15 g16 oV16 g18 oV18 g19 oV19 g7 oV7
 exact oV20
end
theorem walk {l : PySem.W.OpenLaw} {q : Program} {loose : List Str} {XP : (Str → Option Value) → Heap → Prop} {YP : World → Heap → Prop} {d : DefRec} {K : Params → PySem.W.Frag} (hn : l.most = some 63) (hdf : d.params.defaults = [])
  (hlaw : ∀ ns : List Int, ns.length ≤ 63 → ∃ μ', fV_law [.val (.lst (ns.map T.int))] [] = .ok (.val (.bl true)) μ')
  (hY : ∀ (w : World) (h : Heap), YP w h → (K w.params).In h)
  (F : ∀ (w : World) (mg : Str → Option Value) (fa : Addr) (h : Heap), (K w.params).In h → h.Ns mainGlobals mg → mg d.name = some (.ref fa) →
   ∃ fd : FuncData, (∀ (s : Shared) (u : Value), BindsTo s fd ⟨[u], []⟩ [("_law_script", u)]) ∧ ∀ base : Heap, (K w.params).In base → base.Ns mainGlobals mg → FnOk l.prog w (K w.params) mg base CX0 20 fa fd ["_law_script"] (spD (K w.params) fV_law 1)) :
  PySem.W.WalkO q loose XP YP l.row.toRowW d [] (fun f vs => PySem.call f vs) :=
 L2.walk_of (n := 63) (k := 20) (x := "_law_script") (CX := fun _ => CX0) (sp := fun w => spD (K w.params) fV_law 1) hn (by decide) hdf ⟨rfl, by decide, by decide⟩ hY F (fun w H a ns hl hO hS => sp_law hlaw hl hS) fun _ _ _ _ _ z => z
end Fw.k22
end
namespace Fw
open PySem Fw Fw.H
theorem r_sSeq_is (a b : DS) (e : Slots) (μ : Store) : sSeq a b e μ = (a e μ).seq b := rfl
theorem r_sSet_is (i : Nat) (d : D) (e : Slots) (μ : Store) : sSet i d e μ = (d e μ).toS e fun x μ1 => .nx (e.set i (some x)) μ1 := rfl
theorem r_sRet_is (d : D) (e : Slots) (μ : Store) : sRet d e μ = (d e μ).toS e fun x μ1 => .rt x μ1 := rfl
theorem r_sIf_is (c : D) (a b : DS) (e : Slots) (μ : Store) : sIf c a b e μ = (c e μ).toS e fun x μ1 => (R.lift (asB x) μ1).toS e fun k μ1 => if k = true then a e μ1 else b e μ1 := rfl
theorem r_sNil_is (e : Slots) (μ : Store) : sNil e μ = .nx e μ := rfl
theorem r_dUn_is (f : T → Option T) (a : D) (e : Slots) (μ : Store) : dUn f a e μ = (a e μ).bind fun x μ1 => R.lift (ap1 f (rd μ1 x)) μ1 := rfl
theorem r_dBin_is (f : T → T → Option T) (a b : D) (e : Slots) (μ : Store) : dBin f a b e μ = (a e μ).bind fun x μ1 => (b e μ1).bind fun y μ2 => R.lift (ap2 f (rd μ2 x) (rd μ2 y)) μ2 := rfl
theorem r_dVar_is (i : Nat) (e : Slots) (μ : Store) : dVar i e μ = R.lift (slot e i) μ := rfl
theorem r_dC_is (t : T) (e : Slots) (μ : Store) : dC t e μ = .ok (.val t) μ := rfl
theorem r_dCall_is (f : FN) (ds : List D) (e : Slots) (μ : Store) : dCall f ds e μ = (dArgs ds e μ).bind fun xs μ1 => f xs μ1 := rfl
theorem r_dArgs_cons (d : D) (ds : List D) (e : Slots) (μ : Store) : dArgs (d :: ds) e μ = (d e μ).bind fun x μ1 => (dArgs ds e μ1).bind fun xs μ2 => .ok (x :: xs) μ2 := rfl
theorem r_dArgs_nil (e : Slots) (μ : Store) : dArgs [] e μ = .ok [] μ := rfl
theorem r_dTup_is (ds : List D) (e : Slots) (μ : Store) : dTup ds e μ = (dArgs ds e μ).bind fun xs μ1 => (frzs xs μ1).bind fun ts μ2 => .ok (.val (.tup ts)) μ2 := rfl
theorem r_dLst_is (ds : List D) (e : Slots) (μ : Store) : dLst ds e μ = (dArgs ds e μ).bind fun xs μ1 => (frzs xs μ1).bind fun ts μ2 => .ok (.val (.lst ts)) μ2 := rfl
theorem r_dIdx_is (a b : D) (e : Slots) (μ : Store) : dIdx a b e μ = (a e μ).bind fun x μ1 => (b e μ1).bind fun y μ2 => R.lift ((rd μ2 y).bind fun u => idxS μ2 x u) μ2 := rfl
theorem r_dLen_is (a : D) (e : Slots) (μ : Store) : dLen a e μ = (a e μ).bind fun x μ1 => R.lift ((lenS μ1 x).map SV.val) μ1 := rfl
theorem r_cal_is (f : FN) (xs : List SV) (μ : Store) : cal f xs μ = (f xs μ).calm := rfl
theorem r_slot_succ (x : Option SV) (e : Slots) (i : Nat) : slot (x :: e) (i + 1) = slot e i := rfl
theorem r_slot_zero (x : SV) (e : Slots) : slot (some x :: e) 0 = some x := rfl
theorem r_R_toS_ok {α : Type} (a : α) (e : Slots) (μ : Store) (f : α → Store → RS) : (R.ok a μ).toS e f = f a μ := rfl
theorem r_rd_val (μ : Store) (t : T) : rd μ (.val t) = some t := rfl
theorem r_ap1_some (f : T → Option T) (t : T) : ap1 f (some t) = (f t).map SV.val := rfl
theorem r_ap2_some (f : T → T → Option T) (t u : T) : ap2 f (some t) (some u) = (f t u).map SV.val := rfl
theorem r_asB_bl (b : Bool) : asB (.val (.bl b)) = some b := rfl
theorem r_frz_val (μ : Store) (t : T) : frz (.val t) μ = .ok t μ := rfl
theorem r_frzs_nil (μ : Store) : frzs [] μ = .ok [] μ := rfl
theorem r_frzs_cons (x : SV) (xs : List SV) (μ : Store) : frzs (x :: xs) μ = (frz x μ).bind fun t μ1 => (frzs xs μ1).bind fun ts μ2 => .ok (t :: ts) μ2 := rfl
theorem r_RS_seq_nx (e : Slots) (μ : Store) (f : Slots → Store → RS) : (RS.nx e μ).seq f = f e μ := rfl
theorem r_R_lift_some {α : Type} (a : α) (μ : Store) : R.lift (some a) μ = .ok a μ := rfl
theorem r_R_bind_ok {α β : Type} (a : α) (μ : Store) (f : α → Store → R β) : (R.ok a μ).bind f = f a μ := rfl
theorem r_R_calm_ok {α : Type} (a : α) (μ : Store) : (R.ok a μ).calm = .ok a μ := rfl
theorem r_dAnd_is (a b : D) (e : Slots) (μ : Store) : dAnd a b e μ = (a e μ).bind fun x μ1 => (R.lift (asB x) μ1).bind fun k μ1 => if k = true then b e μ1 else .ok (.val (.bl false)) μ1 := rfl
theorem r_dOr_is (a b : D) (e : Slots) (μ : Store) : dOr a b e μ = (a e μ).bind fun x μ1 => (R.lift (asB x) μ1).bind fun k μ1 => if k = true then .ok (.val (.bl true)) μ1 else b e μ1 := rfl
theorem r_dNot_is (a : D) (e : Slots) (μ : Store) : dNot a e μ = (a e μ).bind fun x μ1 => (R.lift (asB x) μ1).bind fun k μ1 => .ok (.val (.bl (!k))) μ1 := rfl
theorem r_iSeq_is (d : D) (e : Slots) (μ : Store) : iSeq d e μ = (d e μ).bind fun x μ1 => (R.lift ((rd μ1 x).bind seqItems) μ1).bind fun ts μ1 => .ok ⟨ts, fun μ' => rd μ' x = rd μ1 x⟩ μ1 := rfl
theorem r_sFor_is (it : DI) (b : BD) (body : DS) (e : Slots) (μ : Store) : sFor it b body e μ = (it e μ).toS e fun W μ1 => forL W.same b body W.items e μ1 := rfl
theorem r_ini_nil (e : Slots) : ini [] e = [] := rfl
theorem r_ini_none (mp : List (Option Nat)) (e : Slots) : ini (none :: mp) e = none :: ini mp e := rfl
theorem r_ini_some (j : Nat) (mp : List (Option Nat)) (e : Slots) : ini (some j :: mp) e = slot e j :: ini mp e := rfl
theorem r_bName_is (i : Nat) (t : T) (e : Slots) : bName i t e = some (e.set i (some (.val t))) := rfl
end Fw
local macro_rules
 | `(tactic| simp_all! only [$ls,*]) => do
  let mut xs : Array (Lean.TSyntax `Lean.Parser.Tactic.simpLemma) := #[]
  for n in "r_sSeq_is r_sSet_is r_sRet_is r_sIf_is r_sNil_is r_dUn_is r_dBin_is r_dVar_is r_dC_is r_dCall_is r_dArgs_cons r_dArgs_nil r_dTup_is r_dLst_is r_dIdx_is r_dLen_is r_cal_is r_slot_succ r_slot_zero r_R_toS_ok r_rd_val r_ap1_some r_ap2_some r_asB_bl r_frz_val r_frzs_nil r_frzs_cons r_RS_seq_nx r_R_lift_some r_R_bind_ok r_R_calm_ok r_dAnd_is r_dOr_is r_dNot_is r_iSeq_is r_sFor_is r_ini_nil r_ini_none r_ini_some r_bName_is".splitOn " " do xs := xs.push (← `(Lean.Parser.Tactic.simpLemma| $(Lean.mkIdent (`Fw ++ n.toName)):term))
  `(tactic| try dsimp only [$(xs),*, Nat.reduceAdd, Nat.reduceSub, List.set_cons_succ, List.set_cons_zero, $ls,*])
namespace Fw.E
open PySem Fw Fw.H
structure Rw (p : Int) (L : Nat) (r : List Int) : Prop where
 len : r.length = L
 lo : ∀ x ∈ r, 0 ≤ x
 hi : ∀ x ∈ r, x < p
noncomputable def g (r : List Int) (k : Nat) : Int := r.getD k 0
theorem md (x p : Int) : ∃ t, x % p = x - p * t := ⟨x / p, Int.emod_def x p⟩
noncomputable def sub (p n : Int) (row lead : List Int) : List Int := (row.zip lead).map fun q => (q.1 - n * q.2) % p
noncomputable def fr (p : Int) (row lead : List Int) (q : Nat) : List Int := if g row q = 0 then row else sub p (g row q) row lead
end Fw.E
namespace Fw.E
open PySem Fw Fw.H
noncomputable abbrev Ld := Nat × List Int
end Fw.E
namespace Fw.E
open PySem Fw Fw.H
noncomputable abbrev li (r : List Int) : T := .lst (r.map T.int)
end Fw.E
namespace Fw.E
open PySem Fw Fw.H
noncomputable def dk (ls : List Ld) : List (Key × T) := ls.map fun q => ((.inl (q.1 : Int) : Key), li q.2)
section
variable {p : Int} {L m : Nat}
end
end Fw.E
namespace Fw.E
open PySem Fw Fw.H
seal RS.goes
section
variable {p : Int} {L m : Nat}
end
end Fw.E
namespace Fw.E
open PySem Fw Fw.H
theorem Rw.set {p : Int} {n k : Nat} {r : List Int} {v : Int} (h : Rw p n r) (h0 : 0 ≤ v) (h1 : v < p) : Rw p n (r.set k v) := by
 refine ⟨by simp [h.len], fun x hx => ?_, fun x hx => ?_⟩
 ·rcases List.mem_or_eq_of_mem_set hx with z | z
  ·exact h.lo x z
  ·lia
 ·rcases List.mem_or_eq_of_mem_set hx with z | z
  ·exact h.hi x z
  ·lia
theorem Rw.drop {p : Int} {n k : Nat} {r : List Int} (h : Rw p n r) : Rw p (n - k) (r.drop k) :=
 ⟨by simp [h.len], fun x hx => h.lo x (List.mem_of_mem_drop hx), fun x hx => h.hi x (List.mem_of_mem_drop hx)⟩
noncomputable def col (lines : List (List Int)) (j : Nat) : List Int := lines.map fun l => g l j
section
variable {p : Int} {w : Nat} {lines : List (List Int)} {ws : List Int}
end
end Fw.E
namespace Fw.E
open PySem Fw Fw.H
noncomputable abbrev tu (r : List Int) : T := .tup (r.map T.int)
section
variable {p : Int} {w : Nat} {lines : List (List Int)} {ws : List Int}
theorem fRep_of (xs : List T) (k : Int) (h : -(2 ^ 63) ≤ k ∧ k < 2 ^ 63 ∧ xs.length * k.toNat ≤ szL) : fRep (.lst xs) (.int k) = some (.lst (List.replicate k.toNat xs).flatten) := if_pos h
theorem rep0 (n : Nat) (h : n ≤ 1000) : fRep (.lst [.int 0]) (.int (n : Int)) = some (li (List.replicate n 0)) := by
 have hn : (n : Int).toNat = n := by lia
 have hz : [T.int 0].length * (n : Int).toNat ≤ szL := by
  rw [hn]
  unfold szL
  simp
  lia
 rw [fRep_of _ _ ⟨by lia, by lia, hz⟩, hn, List.flatten_replicate_singleton, li, List.map_replicate]
end
end Fw.E
namespace Fw.E
open PySem Fw Fw.H
seal RS.goes
section
variable {p : Int} {w : Nat} {lines : List (List Int)} {ws : List Int}
end
end Fw.E
namespace Fw.E
open PySem Fw Fw.H
seal RS.goes
section
variable {p : Int} {w : Nat} {lines : List (List Int)} {ws : List Int}
end
end Fw.E
namespace Fw.E
open PySem Fw Fw.H
end Fw.E
namespace Fw.E
open PySem Fw Fw.H
end Fw.E
namespace Fw.E
open PySem Fw Fw.H
end Fw.E
namespace Fw.F
open PySem Fw Fw.H Fw.E
noncomputable abbrev Rows := List (Int × List Int)
noncomputable def rt (q : Int × List Int) : T := .tup [.int q.1, tu q.2]
noncomputable def tb (p : Int) (w : Nat) (rows : Rows) : T := .tup [.int p, .int w, .tup (rows.map rt)]
end Fw.F
namespace Fw
open PySem Fw Fw.H Fw.E
theorem fEq_nil : fEq (.lst []) (.lst []) = some (.bl true) := fEq_ints [] []
theorem fNe_nil : fNe (.lst []) (.lst []) = some (.bl false) := fNe_ints [] []
theorem st_all (x : SV) (μ : Store) : R.ok x (μ.take μ.length) = R.ok x μ := by rw [List.take_length]
noncomputable def stw := And.intro @sSeq_is <| And.intro @sSet_is <| And.intro @sRet_is <| And.intro @sIf_is <| And.intro @sExpr_is <| And.intro @sNil_is <| And.intro @sAppend_is <| And.intro @sUnp_is <| And.intro @sClear_is <| And.intro @sSetItem_is <| And.intro @sPutD_is <| And.intro @sFor_is <| And.intro @dCell_is <| And.intro @dUn_is <| And.intro @dBin_is <| And.intro @dVar_is <| And.intro @dC_is <| And.intro @dCall_is <| And.intro @dArgs_cons <| And.intro @dArgs_nil <| And.intro @dNot_is <| And.intro @dAnd_is <| And.intro @dOr_is <| And.intro @dIfx_is <| And.intro @dTup_is <| And.intro @dLst_is <| And.intro @dIdx_is <| And.intro @dLen_is <| And.intro @dComp_is <| And.intro @dCut_is <| And.intro @dOpt_none <| And.intro @dOpt_some <| And.intro @dBox_is <| And.intro @iSeq_is <| And.intro @iRange1_is <| And.intro @iRange2_is <| And.intro @iZip_is <| And.intro @iEnum_is <| And.intro @iItems_is <| And.intro @ini_nil <| And.intro @ini_none <| And.intro @ini_some <| And.intro @bName_is <| And.intro @bTup_pair <| And.intro @bTup_tri <| And.intro @cal_is <| And.intro @fnV_is <| And.intro @fnD_is <| And.intro @fnK_is <| And.intro @starts_is <| And.intro @slot_succ <| And.intro @slot_zero <| And.intro @slot_none <| And.intro @R.toS_ok <| And.intro @rd_val <| And.intro @rd_cel <| And.intro @asV_val <| And.intro @ap1_some <| And.intro @ap2_some <| And.intro @toCell_val <| And.intro @asB_bl <| And.intro @asInt_int <| And.intro @frz_val <| And.intro @frzs_nil <| And.intro @frzs_cons <| And.intro @RS.seq_nx <| And.intro @RS.seq_rt <| And.intro @endV_rt <| And.intro @endD_rt <| And.intro @endK_rt <| And.intro @ice_val <| And.intro @fList_lst <| And.intro @fTuple_lst <| And.intro @fTuple_tup <| And.intro @seqItems_lst <| And.intro @seqItems_tup <| And.intro @lenS_lst <| And.intro @lenS_tup <| And.intro @idxS_lst <| And.intro @idxS_tup <| And.intro @idxS_box <| And.intro @fAdd_int <| And.intro @fSub_int <| And.intro @fMod_int <| And.intro @fDiv_int <| And.intro @fNeg_int <| And.intro @fMulA_l <| And.intro @fMulA_r <| And.intro @fLt_int <| And.intro @fLe_int <| And.intro @fGt_int <| And.intro @fGe_int <| And.intro @fEq_int <| And.intro @fNe_int <| And.intro @fEq_str <| And.intro @fNe_str <| And.intro @fEq_ints <| And.intro @fNe_ints <| And.intro @fEq_nil <| And.intro @fNe_nil <| And.intro @st_all <| And.intro @fBand_one <| And.intro @fInt_int <| And.intro @fInt_bl <| And.intro @notNon_non <| And.intro @notNon_int <| And.intro @fRev_lst <| And.intro @R.lift_some <| And.intro @R.bind_ok <| And.intro @R.calm_ok <| And.intro @atI_zero <| And.intro @atI_one <| @atI_two
noncomputable def stc := And.intro @Option.bind_some.{0, 0} <| And.intro @Option.map_some.{0, 0} <| And.intro @List.map_cons.{0, 0} <| And.intro @List.map_nil.{0, 0} <| And.intro @List.length_cons.{0} <| And.intro @List.length_nil.{0} <| And.intro @List.cons_append.{0} <| And.intro @List.nil_append.{0} <| And.intro @List.replicate_succ.{0} <| And.intro @List.replicate_zero.{0} <| And.intro @List.set_cons_succ.{0} <| And.intro @List.set_cons_zero.{0} <| And.intro @List.getElem?_cons_zero.{0} <| And.intro @List.getElem?_cons_succ.{0} <| And.intro @List.take_zero.{0} <| And.intro @List.take_nil.{0} <| And.intro @beq_self_eq_true.{0} <| And.intro @if_false.{1} <| And.intro @if_true.{1} <| And.intro @Bool.false_eq_true <| And.intro @Bool.not_true <| @Bool.not_false
end Fw
namespace Fw
open PySem Fw Fw.H Fw.E
end Fw
local macro_rules
 | `(tactic| simp! only [$ls,*]) => do
  let mut xs : Array (Lean.TSyntax `Lean.Parser.Tactic.simpLemma) := #[]
  for n in "r_sSeq_is r_sSet_is r_sRet_is r_sIf_is r_sNil_is r_dUn_is r_dBin_is r_dVar_is r_dC_is r_dCall_is r_dArgs_cons r_dArgs_nil r_dTup_is r_dLst_is r_dIdx_is r_dLen_is r_cal_is r_slot_succ r_slot_zero r_R_toS_ok r_rd_val r_ap1_some r_ap2_some r_asB_bl r_frz_val r_frzs_nil r_frzs_cons r_RS_seq_nx r_R_lift_some r_R_bind_ok r_R_calm_ok r_dAnd_is r_dOr_is r_dNot_is r_iSeq_is r_sFor_is r_ini_nil r_ini_none r_ini_some r_bName_is sExpr_is sAppend_is sUnp_is sClear_is sSetItem_is sPutD_is dCell_is dIfx_is dComp_is dCut_is dOpt_none dOpt_some dBox_is iRange1_is iRange2_is iZip_is iEnum_is iItems_is bTup_pair bTup_tri fnV_is fnD_is fnK_is starts_is slot_none rd_cel asV_val toCell_val asInt_int RS.seq_rt endV_rt endD_rt endK_rt ice_val fList_lst fTuple_lst fTuple_tup seqItems_lst seqItems_tup lenS_lst lenS_tup idxS_lst idxS_tup idxS_box fAdd_int fSub_int fMod_int fDiv_int fNeg_int fMulA_l fMulA_r fLt_int fLe_int fGt_int fGe_int fEq_int fNe_int fEq_str fNe_str fEq_ints fNe_ints fEq_nil fNe_nil st_all fBand_one fInt_int fInt_bl notNon_non notNon_int fRev_lst atI_zero atI_one atI_two".splitOn " " do xs := xs.push (← `(Lean.Parser.Tactic.simpLemma| $(Lean.mkIdent (`Fw ++ n.toName)):term))
  `(tactic| simp (disch := first | decide | omega | assumption) only [$(xs),*, Fw.stc, Nat.reduceAdd, Nat.reduceSub, $ls,*])
local macro_rules
 | `(tactic| dsimp! only [$ls,*]) => do
  let mut xs : Array (Lean.TSyntax `Lean.Parser.Tactic.simpLemma) := #[]
  for n in "r_slot_succ r_slot_zero r_dVar_is r_dC_is r_rd_val r_frz_val r_asB_bl sSeq_is sSet_is sRet_is sIf_is sExpr_is sNil_is sAppend_is sUnp_is sClear_is sSetItem_is sPutD_is sFor_is dCell_is dUn_is dBin_is dCall_is dArgs_cons dArgs_nil dNot_is dAnd_is dOr_is dIfx_is dTup_is dLst_is dIdx_is dLen_is dComp_is dCut_is dOpt_none dOpt_some dBox_is iSeq_is iRange1_is iRange2_is iZip_is iEnum_is iItems_is ini_nil ini_none ini_some bName_is bTup_pair bTup_tri cal_is fnV_is fnD_is fnK_is starts_is slot_none R.toS_ok rd_cel asV_val ap1_some ap2_some toCell_val asInt_int frzs_nil frzs_cons RS.seq_nx RS.seq_rt endV_rt endD_rt endK_rt ice_val fList_lst fTuple_lst fTuple_tup seqItems_lst seqItems_tup lenS_lst lenS_tup idxS_lst idxS_tup idxS_box fAdd_int fSub_int fMod_int fDiv_int fNeg_int fMulA_l fMulA_r fLt_int fLe_int fGt_int fGe_int fEq_int fNe_int fEq_str fNe_str fEq_ints fNe_ints fEq_nil fNe_nil st_all fBand_one fInt_int fInt_bl notNon_non notNon_int fRev_lst R.lift_some R.bind_ok R.calm_ok atI_zero atI_one atI_two".splitOn " " do xs := xs.push (← `(Lean.Parser.Tactic.simpLemma| $(Lean.mkIdent (`Fw ++ n.toName)):term))
  `(tactic| simp (disch := first | decide | omega | assumption) only [$(xs),*, Fw.stc, Nat.reduceAdd, Nat.reduceSub, $ls,*])
namespace Fw.U
open PySem Fw Builtin.Str
end Fw.U
namespace Fw.F
open PySem Fw Fw.H Fw.E
end Fw.F
namespace Fw.F
open PySem Fw Fw.H Fw.E
end Fw.F
namespace Fw.F
open PySem Fw Fw.H Fw.E
end Fw.F
namespace Fw.J
open PySem Fw Fw.H Fw.E Fw.F
theorem Rw.snoc {m x : Int} {i : Nat} {ns : List Int} (h : Rw m i ns) (h0 : 0 ≤ x) (h1 : x < m) : Rw m (i + 1) (ns ++ [x]) := by
 refine ⟨by have := h.1; simp; lia, fun y hy => ?_, fun y hy => ?_⟩
 ·rcases List.mem_append.mp hy with z | z
  ·exact h.2 y z
  ·simp at z; lia
 ·rcases List.mem_append.mp hy with z | z
  ·exact h.3 y z
  ·simp at z; lia
end Fw.J
namespace Fw.U
open PySem Fw Fw.H Fw.E
noncomputable abbrev hnd (h : Int) : T := .tup [.str "hand", .int h]
noncomputable abbrev som (k : Int) (rs : List T) : T := .tup [.str "some", .int k, .tup rs]
noncomputable def IsR : Nat → T → Prop
 | 0, t => ∃ h : Int, 0 ≤ h ∧ h < 10 ∧ t = hnd h
 | d + 1, t => (∃ h : Int, 0 ≤ h ∧ h < 10 ∧ t = hnd h) ∨ ∃ (k : Int) (r : T) (rs : List T), t = som k (r :: rs) ∧ 1 ≤ k ∧ k ≤ rs.length + 1 ∧ rs.length + 1 ≤ 10 ∧ ∀ x ∈ r :: rs, IsR d x
theorem someHand : (("some" : Str) == "hand") = false := by decide +kernel
noncomputable def b_is_hand : DS := (sRet (dBin fEq (dIdx (dVar 0) (dC (.int 0))) (dC (.str "hand"))))
noncomputable def fV_is_hand : FN := fnV 1 b_is_hand
theorem hand_yes (h : Int) (μ : Store) : fV_is_hand [.val (hnd h)] μ = .ok (.val (.bl true)) μ := by unfold fV_is_hand b_is_hand; simp (disch := first | decide | omega | assumption) only [stw, stc, Nat.reduceAdd, Nat.reduceSub]
theorem hand_no (k : Int) (rs : List T) (μ : Store) : fV_is_hand [.val (som k rs)] μ = .ok (.val (.bl false)) μ := by unfold fV_is_hand b_is_hand; simp (disch := first | decide | omega | assumption) only [stw, stc, Nat.reduceAdd, Nat.reduceSub, someHand]
theorem extend_st0 (μ : Store) (ts us : List T) (hl : ts.length + us.length ≤ szL) : extendAt (.cel μ.length) (.lst us) (μ ++ [(true, .lst ts)]) = some (μ ++ [(true, .lst (ts ++ us))]) := by
 unfold extendAt
 simp only [st_get0]
 rw [if_pos hl]
 simp
end Fw.U
namespace Fw.J
open PySem Fw Fw.H Fw.E Fw.F
end Fw.J
namespace Fw
open PySem Fw
end Fw
namespace Fw.J
open PySem Fw Fw.H Fw.E Fw.F
end Fw.J
namespace Fw.k22
open PySem Fw Fw.H Fw.E Fw.F Fw.U
noncomputable def plc : Nat → T → Nat
 | 0, _ => 0
 | d + 1, t => match t with
  | .tup [_, .int k, .tup rs] => (k.toNat - 1) + (rs.map (plc d)).sum
  | _ => 0
theorem plc_hnd (d : Nat) (h : Int) : plc d (hnd h) = 0 := by cases d <;> rfl
theorem plc_som (d : Nat) (k : Int) (rs : List T) : plc (d + 1) (som k rs) = (k.toNat - 1) + (rs.map (plc d)).sum := rfl
noncomputable def cnt : Nat → T → Nat
 | 0, _ => 1
 | d + 1, t => match t with
  | .tup [_, .int _, .tup rs] => (rs.map (cnt d)).sum
  | _ => 1
theorem cnt_hnd (d : Nat) (h : Int) : cnt d (hnd h) = 1 := by cases d <;> rfl
theorem cnt_som (d : Nat) (k : Int) (rs : List T) : cnt (d + 1) (som k rs) = (rs.map (cnt d)).sum := rfl
theorem hand_yes' (h : Int) (μ : Store) : fV_is_hand [.val (hnd h)] μ = .ok (.val (.bl true)) μ := hand_yes h μ
theorem hand_no' (k : Int) (rs : List T) (μ : Store) : fV_is_hand [.val (som k rs)] μ = .ok (.val (.bl false)) μ := hand_no k rs μ
theorem own_ok {k : Int} (h1 : 1 ≤ k) (rs : List T) (μ : Store) : fV_own_places [.val (som k rs)] μ = .ok (.val (.int ((k.toNat - 1 : Nat) : Int))) μ := by
 have e : (if (0 : Int) > k - 1 then (0 : Int) else k - 1) = ((k.toNat - 1 : Nat) : Int) := by
  rw [if_neg (by lia)]; lia
 unfold fV_own_places b_own_places
 simp! only [fMax_int, e]
theorem sum_cast (f : T → Nat) : ∀ l : List T, (l.map fun x => ((f x : Nat) : Int)).sum = (((l.map f).sum : Nat) : Int)
 | [] => rfl
 | a :: l => by rw [List.map_cons, List.map_cons, List.sum_cons, List.sum_cons, sum_cast f l, Int.natCast_add]
theorem places_ok : ∀ (d n : Nat) (t : T), IsR d t → d ≤ n → ∀ (μ : Store), fV_places_taken (n + 1) [.val t] μ = .ok (.val (.int ((plc d t : Nat) : Int))) μ := by
 intro d
 induction d with
 | zero =>
  rintro n t ⟨h, h0, h9, rfl⟩ hn μ
  show fnV 1 (b_places_taken (fV_places_taken n)) _ _ = _
  rw [plc_hnd]
  unfold b_places_taken
  simp! only [hand_yes']
  rfl
 | succ d ih =>
  rintro n t ht hn μ
  obtain ⟨m, rfl⟩ : ∃ m, n = m + 1 := ⟨n - 1, by lia⟩
  show fnV 1 (b_places_taken (fV_places_taken (m + 1))) _ _ = _
  rcases ht with ⟨h, h0, h9, rfl⟩ | ⟨k, r, rs, rfl, h1, h2, h3, h4⟩
  ·rw [plc_hnd]
   unfold b_places_taken
   simp! only [hand_yes']
   rfl
  ·have hc := fun (same : Store → Prop) (hs' : same μ) => compL_ofA (same := same) (b := bName 0) (d := dCall (cal (fV_places_taken (m + 1))) [(dVar 0)]) (e := [none]) (μ := μ) (id : T → T) (fun x => .int ((plc d x : Nat) : Int)) hs' (r :: rs) fun x hx => by
    refine ⟨_, rfl, ?_⟩
    simp! only [ih m x (h4 x hx) (by lia) μ, id]
   rw [List.map_id] at hc
   have e : fSum (.lst ((r :: rs).map fun x => T.int ((plc d x : Nat) : Int))) = some (.int ((((r :: rs).map (plc d)).sum : Nat) : Int)) := by
    rw [fSum_map, sum_cast]
   have ho := own_ok h1 (r :: rs) μ
   rw [plc_som]
   unfold b_places_taken
   simp! only [hand_no', ho]
   rw [hc]
   ·rw [R.calm_ok, R.bind_ok, if_pos (by simp [szL]; lia)]
    rw [List.map_cons] at e
    simp! only [e]
    rw [Int.natCast_add]
   ·trivial
noncomputable def crw (p : Int) : Nat → T → Bool
 | 0, _ => false
 | d + 1, t => match t with
  | .tup [_, .int k, .tup rs] => (decide (1 < k) && decide (p ≤ rs.length)) || rs.any (crw p d)
  | _ => false
theorem crw_hnd (p : Int) (d : Nat) (h : Int) : crw p d (hnd h) = false := by cases d <;> rfl
theorem crw_som (p : Int) (d : Nat) (k : Int) (rs : List T) : crw p (d + 1) (som k rs) = ((decide (1 < k) && decide (p ≤ rs.length)) || rs.any (crw p d)) := rfl
theorem crowd_ok {p : Int} : ∀ (d n : Nat) (t : T), IsR d t → d ≤ n → ∀ (μ : Store), fV_is_crowded (n + 1) [.val (.int p), .val t] μ = .ok (.val (.bl (crw p d t))) μ := by
 intro d
 induction d with
 | zero =>
  rintro n t ⟨h, h0, h9, rfl⟩ hn μ
  show fnV 2 (b_is_crowded (fV_is_crowded n)) _ _ = _
  rw [crw_hnd]
  unfold b_is_crowded
  simp! only [hand_yes']
 | succ d ih =>
  rintro n t ht hn μ
  obtain ⟨m, rfl⟩ : ∃ m, n = m + 1 := ⟨n - 1, by lia⟩
  show fnV 2 (b_is_crowded (fV_is_crowded (m + 1))) _ _ = _
  rcases ht with ⟨h, h0, h9, rfl⟩ | ⟨k, r, rs, rfl, h1, h2, h3, h4⟩
  ·rw [crw_hnd]
   unfold b_is_crowded
   simp! only [hand_yes']
  ·have hc := fun (same : Store → Prop) (hs' : same μ) => compL_ofA (same := same) (b := bName 0) (d := dCall (cal (fV_is_crowded (m + 1))) [(dVar 1), (dVar 0)]) (e := [none, some (.val (.int p))]) (μ := μ) (id : T → T) (fun x => .bl (crw p d x)) hs' (r :: rs) fun x hx => by
    refine ⟨_, rfl, ?_⟩
    simp! only [ih m x (h4 x hx) (by lia) μ, id]
   rw [List.map_id] at hc
   have e : fAny (.lst ((r :: rs).map fun x => T.bl (crw p d x))) = some (.bl ((r :: rs).any (crw p d))) := fAny_map (crw p d) (r :: rs)
   have e3 : dUn fAny (dComp (iSeq (dIdx (dVar 1) (dC (.int 2)))) [none, some 0] (bName 0) (dC (.bl true)) (dCall (cal (fV_is_crowded (m + 1))) [(dVar 1), (dVar 0)])) [some (.val (.int p)), some (.val (som k (r :: rs)))] μ = .ok (.val (.bl ((r :: rs).any (crw p d)))) μ := by
    simp! only []
    rw [hc]
    ·rw [R.calm_ok, R.bind_ok, if_pos (by simp [szL]; lia)]
     rw [List.map_cons] at e
     simp! only [e]
    ·trivial
   generalize hq : dUn fAny (dComp (iSeq (dIdx (dVar 1) (dC (.int 2)))) [none, some 0] (bName 0) (dC (.bl true)) (dCall (cal (fV_is_crowded (m + 1))) [(dVar 1), (dVar 0)])) = D at e3
   rw [crw_som]
   unfold b_is_crowded
   rw [hq]
   generalize (r :: rs).any (crw p d) = A at e3 ⊢
   have c1 : decide (p ≤ ((r :: rs).length : Int)) = decide (p ≤ ((rs.length + 1 : Nat) : Int)) := rfl
   rw [c1]
   by_cases c0 : (1 : Int) < k
   ·have c0' : decide ((1 : Int) < k) = true := decide_eq_true c0
    rw [c0', Bool.true_and]
    cases c2 : decide (p ≤ ((rs.length + 1 : Nat) : Int)) with
    | true => simp! only [hand_no', c0', c2]; rfl
    | false => simp! only [hand_no', c0', c2, e3]; rfl
   ·have c0' : decide ((1 : Int) < k) = false := decide_eq_false c0
    rw [c0', Bool.false_and, Bool.false_or]
    simp! only [hand_no', c0', e3]
noncomputable def pw (p nb : Int) : Nat → Int
 | 0 => 1
 | i + 1 => pw p nb i * nb % p
noncomputable def layP (p nb : Int) (l : List Int) (u : Nat) : Nat → List Int
 | 0 => l
 | m + 1 => (layP p nb l u m).set (u + m) (pw p nb (m + 1))
noncomputable def layD (p nb : Int) (D : List (Key × T)) (u : Nat) : Nat → List (Key × T)
 | 0 => D
 | m + 1 => putT (layD p nb D u m) (.inl ((u + m : Nat) : Int)) (.int (pw p nb (m + 1)))
theorem pw_b {p : Int} (hp : 2 ≤ p) (nb : Int) (i : Nat) : 0 ≤ pw p nb i ∧ pw p nb i < p := by
 cases i with
 | zero => show (0 : Int) ≤ 1 ∧ (1 : Int) < p; lia
 | succ i => exact ⟨Int.emod_nonneg _ (by lia), Int.emod_lt_of_pos _ (by lia)⟩
theorem layP_rw {p : Int} {w : Nat} {l : List Int} (hp : 2 ≤ p) (hl : Rw p w l) (nb : Int) (u : Nat) : ∀ m, Rw p w (layP p nb l u m)
 | 0 => hl
 | m + 1 => Rw.set (layP_rw hp hl nb u m) (pw_b hp nb (m + 1)).1 (pw_b hp nb (m + 1)).2
theorem valT_put (kts : List (Key × T)) (k k' : Key) (t : T) : valT (putT kts k t) k' = if k' = k then some t else valT kts k' := by
 have hv : ∀ (l : List (Key × T)) (q : Key), valT l q = (l.find? fun p => decide (p.1 = q)).map (·.2) := fun l q => by unfold valT; rfl
 unfold putT
 by_cases c : (kts.any fun kv => decide (kv.1 = k)) = true
 ·rw [if_pos c]
  induction kts with
  | nil => simp at c
  | cons a r ih =>
   rw [hv, hv, List.map_cons, List.find?_cons, List.find?_cons]
   by_cases e : a.1 = k
   ·simp only [e, if_true]
    by_cases z : k' = k
    ·subst z; simp
    ·rw [if_neg z, decide_eq_false (fun q => z q.symm)]
     simp only
     have : ∀ l : List (Key × T), ((l.map fun kv => if kv.1 = k then (kv.1, t) else kv).find? fun p => decide (p.1 = k')) = l.find? fun p => decide (p.1 = k') := by
      intro l
      induction l with
      | nil => rfl
      | cons b l il =>
       rw [List.map_cons, List.find?_cons, List.find?_cons]
       by_cases q : b.1 = k
       ·simp only [q, if_true]
        rw [decide_eq_false (fun y => z y.symm)]
        simp only
        exact il
       ·simp only [q, if_false]
        cases decide (b.1 = k') with
        | true => rfl
        | false => exact il
     rw [this]
   ·simp only [e, if_false]
    have c' : (r.any fun kv => decide (kv.1 = k)) = true := by
     rw [List.any_cons, decide_eq_false e, Bool.false_or] at c; exact c
    have := ih c'
    rw [hv, hv] at this
    by_cases z : a.1 = k'
    ·rw [decide_eq_true z]
     simp only
     rw [if_neg (fun q => e (z.trans q))]
    ·rw [decide_eq_false z]
     simp only
     exact this
 ·rw [if_neg c, hv, hv, List.find?_append]
  by_cases z : k' = k
  ·subst z
   rw [if_pos rfl]
   have : kts.find? (fun p => decide (p.1 = k')) = none := by
    rw [List.find?_eq_none]
    intro x hx q
    exact c (List.any_eq_true.mpr ⟨x, hx, q⟩)
   rw [this]; simp
  ·rw [if_neg z]
   cases q : kts.find? (fun p => decide (p.1 = k')) with
   | some y => rfl
   | none =>
    simp
    exact fun y => z y.symm
noncomputable def Lk (w : Nat) (L : List Int) (D : List (Key × T)) : Prop := L.length = w ∧ ∀ i, i < w → (valT D (.inl (i : Int))).getD (.int 0) = .int (g L i)
theorem lay_lk {p : Int} {w : Nat} {L : List Int} {D : List (Key × T)} (h : Lk w L D) (nb : Int) (u : Nat) : ∀ m, u + m ≤ w → Lk w (layP p nb L u m) (layD p nb D u m)
 | 0, _ => h
 | m + 1, hu => by
  obtain ⟨h1, h2⟩ := lay_lk (p := p) h nb u m (by lia)
  refine ⟨by show ((layP p nb L u m).set _ _).length = w; rw [List.length_set]; exact h1, fun i hi => ?_⟩
  show (valT (putT (layD p nb D u m) (.inl ((u + m : Nat) : Int)) (.int (pw p nb (m + 1)))) (.inl (i : Int))).getD (.int 0) = .int (g ((layP p nb L u m).set (u + m) (pw p nb (m + 1))) i)
  rw [valT_put]
  unfold g
  by_cases z : i = u + m
  ·subst z
   rw [if_pos rfl, List.getD_eq_getElem?_getD, List.getElem?_set_self (by lia)]; rfl
  ·rw [if_neg (fun q => z (by have : ((i : Nat) : Int) = ((u + m : Nat) : Int) := Sum.inl.inj q; lia)), h2 i hi, List.getD_eq_getElem?_getD, List.getElem?_set_ne (fun q => z q.symm), ← List.getD_eq_getElem?_getD]; rfl
noncomputable def powB : DS := (sSeq (sSet 6 (dBin fMod (dBin fMulA (dVar 6) (dVar 4)) (dVar 0)))
 (sSetItem 5 (dVar 7) (dVar 6)))
theorem powers_ok {p : Int} {w : Nat} {l : List Int} (hp : 2 ≤ p) (hp2 : p < 1000000) (hl : Rw p w l) (hw : w ≤ 1000) (u m : Nat) (hu : u + m ≤ w) (nb : Int) (hn : -1000 < nb ∧ nb < 1000) (μ : Store) :
  fV_with_powers [.val (.int p), .val (li l), .val (.int u), .val (.int m), .val (.int nb)] μ = .ok (.val (li (layP p nb l u m))) μ := by
 have rn : (rngOk (u : Int) && rngOk ((u : Int) + (m : Int))) = true := by rw [rngOk_of (by lia) (by lia), rngOk_of (by lia) (by lia)]; rfl
 obtain ⟨e', μ', hf, x7, rfl, rfl⟩ := forL_nx (same := fun _ => True) (b := bName 7) (body := powB) (ts := intsT (u : Int) ((u : Int) + (m : Int) - (u : Int)).toNat)
  (I := fun i e μ1 => ∃ x7, e = [some (.val (.int p)), some (.val (li l)), some (.val (.int u)), some (.val (.int m)), some (.val (.int nb)), some (.cel μ.length), some (.val (.int (pw p nb i))), x7] ∧ μ1 = μ ++ [(true, li (layP p nb l u i))])
  (fun _ _ _ _ => trivial) (fun i t e μ1 ht hI => by
   obtain ⟨x7, rfl, rfl⟩ := hI
   obtain ⟨q, rfl, hq, hqi⟩ := intsT_k ht
   have hl' := layP_rw hp hl nb u i
   obtain ⟨h0, h1⟩ := pw_b hp nb i
   have ll := hl'.len
   have eq : q = ((u + i : Nat) : Int) := by lia
   subst eq
   have hm : fMulA (.int (pw p nb i)) (.int nb) = some (.int (pw p nb i * nb)) := fMulA_r _ _ (by lia) (by lia)
   have hmd : fMod (.int (pw p nb i * nb)) (.int p) = some (.int (pw p nb (i + 1))) := fMod_int _ _ (by lia)
   have hs : setAt (.cel μ.length) (.int ((u + i : Nat) : Int)) (.int (pw p nb (i + 1))) (μ ++ [(true, li (layP p nb l u i))]) = some (μ ++ [(true, li (layP p nb l u (i + 1)))]) := by
    rw [setAt_at (ts := (layP p nb l u i).map T.int) (by simp) (by lia) (by rw [List.length_map]; lia), st_set0, Int.toNat_natCast]
    show _ = some (μ ++ [(true, T.lst (((layP p nb l u i).set (u + i) (pw p nb (i + 1))).map T.int))])
    rw [List.map_set]
   refine ⟨_, _, μ ++ [(true, li (layP p nb l u (i + 1)))], rfl, ?_, some (.val (.int ((u + i : Nat) : Int))), rfl, rfl⟩
   unfold powB
   dsimp! only [hm, hmd, hs])
  (e := [some (.val (.int p)), some (.val (li l)), some (.val (.int u)), some (.val (.int m)), some (.val (.int nb)), some (.cel μ.length), some (.val (.int 1)), none]) (μ := μ ++ [(true, li l)]) ⟨none, rfl, rfl⟩
 rw [intsT_len, show ((u : Int) + (m : Int) - (u : Int)).toNat = m by lia] at hf
 unfold fV_with_powers
 rw [fnV_is, show b_with_powers = sSeq (sSet 5 (dCell (dUn fList (dVar 1)))) (sSeq (sSet 6 (dC (.int 1))) (sSeq (sFor (iRange2 (dVar 2) (dBin fAdd (dVar 2) (dVar 3))) (bName 7) powB) (sRet (dVar 5)))) from rfl]
 have hf2 : forL (fun _ => True) (bName 7) powB (intsT (u : Int) ((u : Int) + (m : Int) - (u : Int)).toNat) [some (.val (.int p)), some (.val (li l)), some (.val (.int u)), some (.val (.int m)), some (.val (.int nb)), some (.cel μ.length), some (.val (.int 1)), none] (μ ++ [(true, li l)]) = RS.nx [some (.val (.int p)), some (.val (li l)), some (.val (.int u)), some (.val (.int m)), some (.val (.int nb)), some (.cel μ.length), some (.val (.int (pw p nb m))), x7] (μ ++ [(true, li (layP p nb l u m))]) := by
  rw [show ((u : Int) + (m : Int) - (u : Int)).toNat = m by lia]; exact hf
 dsimp! only [rn, hf2, ice_st0]
end Fw.k22
namespace Fw.k22
open PySem Fw Fw.H Fw.E Fw.F Fw.U
inductive RelR (w : Nat) : Rows → List T → Prop
 | nil : RelR w [] []
 | cons {h : Int} {L : List Int} {D : List (Key × T)} {rows : Rows} {lr : List T} : Lk w L D → RelR w rows lr → RelR w ((h, L) :: rows) (.tup [.int h, .dct D] :: lr)
theorem RelR.append {w : Nat} {r1 r2 : Rows} {l1 l2 : List T} (h : RelR w r1 l1) (k : RelR w r2 l2) : RelR w (r1 ++ r2) (l1 ++ l2) := by
 induction h with
 | nil => exact k
 | cons a _ ih => exact .cons a ih
theorem RelR.len {w : Nat} {r1 : Rows} {l1 : List T} (h : RelR w r1 l1) : l1.length = r1.length := by
 induction h with
 | nil => rfl
 | cons _ _ ih => rw [List.length_cons, List.length_cons, ih]
theorem putT_len (kts : List (Key × T)) (k : Key) (t : T) : (putT kts k t).length ≤ kts.length + 1 := by
 unfold putT
 split
 ·rw [List.length_map]; lia
 ·rw [List.length_append]; exact Nat.le_refl _
theorem layD_len (p nb : Int) (D : List (Key × T)) (u : Nat) : ∀ m, (layD p nb D u m).length ≤ D.length + m
 | 0 => Nat.le_refl _
 | m + 1 => by
  have := layD_len p nb D u m
  have := putT_len (layD p nb D u m) (.inl ((u + m : Nat) : Int)) (.int (pw p nb (m + 1)))
  show (putT _ _ _).length ≤ _
  lia
noncomputable def LaidP (F : FN) (p : Int) (d : Nat) (t : T) (D : List (Key × T)) (v : Nat) (lr : List T) : Prop :=
 ∀ (M : Store) (ks kr : Nat) (x : SV) (acc : List T), M[ks]? = some (true, .lst [.int v]) → M[kr]? = some (true, .lst acc) → ks ≠ kr → rd M x = some (.dct D) → x ≠ .cel ks → x ≠ .cel kr → acc.length + lr.length ≤ 1000 →
  ∃ M', F [.val (.int p), .val t, x, .cel ks, .cel kr] M = .ok (.val (.bl (!crw p d t))) M' ∧ M'.length = M.length ∧ M'[ks]? = some (true, .lst [.int ((v + plc d t : Nat) : Int)]) ∧ M'[kr]? = some (true, .lst (acc ++ lr)) ∧ ∀ j, j ≠ ks → j ≠ kr → x ≠ .cel j → M'[j]? = M[j]?
noncomputable def MadeP (F : FN) (p : Int) (t : T) (L : List Int) (v : Nat) (rows : Rows) : Prop := ∀ μ, F [.val (.int p), .val t, .val (li L), .val (.int v)] μ = .ok (.val (.lst (rows.map rt))) μ
noncomputable def Fine (p : Int) (w : Nat) (rows : Rows) : Prop := ∀ q ∈ rows, Rw p w q.2 ∧ 0 ≤ q.1 ∧ q.1 < 10
theorem Fine.append {p : Int} {w : Nat} {a b : Rows} (h : Fine p w a) (k : Fine p w b) : Fine p w (a ++ b) := fun q hq => by
 rcases List.mem_append.mp hq with z | z
 ·exact h q z
 ·exact k q z
noncomputable def Jt (F G : FN) (p : Int) (w d : Nat) (t : T) : Prop := ∀ (L : List Int) (D : List (Key × T)) (v : Nat), Rw p w L → Lk w L D → v + plc d t ≤ w → D.length + 10 * d ≤ 1000 →
 ∃ (rows : Rows) (lr : List T), RelR w rows lr ∧ rows.length = cnt d t ∧ Fine p w rows ∧ MadeP F p t L v rows ∧ LaidP G p d t D v lr
theorem hand_lt : (("hand" : Str) == "hand") = true := by decide +kernel
theorem some_lt : (("some" : Str) == "hand") = false := by decide +kernel
theorem laid_hand (G : FN) (p : Int) (d : Nat) (h : Int) (D : List (Key × T)) (v : Nat) : LaidP (fnV 14 (b__law_laid G)) p d (hnd h) D v [.tup [.int h, .dct D]] := by
 intro M ks kr x acc h1 h2 h3 h4 h5 h6 h7
 have hlt : kr < M.length := (List.getElem?_eq_some_iff.mp h2).1
 have z := hand_lt
 obtain ⟨N, hf, hN, hN2⟩ : ∃ N, frz x M = .ok (.dct D) N ∧ N.length = M.length ∧ ∀ j, x ≠ .cel j → N[j]? = M[j]? := by
  cases x with
  | val t => cases h4; exact ⟨M, rfl, rfl, fun _ _ => rfl⟩
  | cel j =>
   rw [rd_cel] at h4
   obtain ⟨q, hq, e⟩ := Option.map_eq_some_iff.mp h4
   obtain ⟨b, t⟩ := q
   cases e
   refine ⟨M.set j (false, .dct D), ?_, List.length_set, fun i hi => List.getElem?_set_ne (fun e => hi (by rw [e]))⟩
   unfold frz
   simp only [hq]
  | box xs => cases h4
 have ap : appendAt (.cel kr) (.tup [.int h, .dct D]) N = some (N.set kr (true, .lst (acc ++ [.tup [.int h, .dct D]]))) := append_at (by rw [hN2 kr h6]; exact h2) (by unfold szL; lia)
 have ls : lsts (.cel kr) M = some () := lsts_at h2
 refine ⟨N.set kr (true, .lst (acc ++ [.tup [.int h, .dct D]])), ?_, by rw [List.length_set, hN], ?_, ?_, ?_⟩
 ·rw [crw_hnd]
  unfold b__law_laid
  simp (disch := first | decide | omega | assumption) only [stw, stc, Nat.reduceAdd, Nat.reduceSub, z, ls, hf, ap]
  rw [← hN, ← List.length_set (as := N) (i := kr) (a := (true, T.lst (acc ++ [.tup [.int h, .dct D]]))), List.take_length]
 ·rw [List.getElem?_set_ne (fun e => h3 e.symm), hN2 ks h5, h1, plc_hnd]; rfl
 ·rw [List.getElem?_set_self (by rw [hN]; exact hlt)]
 ·intro j j1 j2 j3
  rw [List.getElem?_set_ne (fun e => j2 e.symm), hN2 j j3]
theorem made_hand (F : FN) (p : Int) (h : Int) (L : List Int) (v : Nat) : MadeP (fnV 9 (b_rows_made F)) p (hnd h) L v [(h, L)] := by
 intro μ
 unfold b_rows_made
 simp! only [hand_yes', rt]
theorem jt_hand (F G : FN) {p : Int} {w : Nat} (d : Nat) {h : Int} (h0 : 0 ≤ h) (h9 : h < 10) : Jt (fnV 9 (b_rows_made F)) (fnV 14 (b__law_laid G)) p w d (hnd h) := by
 intro L D v hL hD hv hl
 exact ⟨[(h, L)], [.tup [.int h, .dct D]], .cons hD .nil, by rw [cnt_hnd]; rfl, fun q hq => by rw [List.mem_singleton.mp hq]; exact ⟨hL, h0, h9⟩, made_hand F p h L v, laid_hand G p d h D v⟩
noncomputable def lpB : DS := (sSeq (sSet 12 (dBin fMod (dBin fMulA (dVar 12) (dBin fAdd (dVar 10) (dC (.int 1)))) (dVar 0)))
 (sPutD 11 (dVar 13) (dVar 12)))
theorem lp_ok {p : Int} (hp : 2 ≤ p) (hp2 : p < 1000) (D : List (Key × T)) (hD : D.length ≤ 1000) (u m : Nat) (hm : m ≤ 20) (i : Int) (hi : 0 ≤ i ∧ i < 100) (N : Store) (x1 x2 x3 x4 x5 x6 x7 x8 x9 x13 : Option SV) :
  ∃ y12 y13, forL (fun _ => True) (bName 13) lpB (intsT (u : Int) m) [some (.val (.int p)), x1, x2, x3, x4, x5, x6, x7, x8, x9, some (.val (.int i)), some (.cel N.length), some (.val (.int 1)), x13] (N ++ [(true, .dct D)]) =
   .nx [some (.val (.int p)), x1, x2, x3, x4, x5, x6, x7, x8, x9, some (.val (.int i)), some (.cel N.length), y12, y13] (N ++ [(true, .dct (layD p (i + 1) D u m))]) := by
 obtain ⟨e', μ', hf, y12, y13, rfl, rfl, _⟩ := forL_nx (same := fun _ => True) (b := bName 13) (body := lpB) (ts := intsT (u : Int) m)
  (I := fun c e μ1 => ∃ y12 y13, e = [some (.val (.int p)), x1, x2, x3, x4, x5, x6, x7, x8, x9, some (.val (.int i)), some (.cel N.length), y12, y13] ∧ μ1 = N ++ [(true, .dct (layD p (i + 1) D u c))] ∧ y12 = some (.val (.int (pw p (i + 1) c))))
  (fun _ _ _ _ => trivial) (fun c t e μ1 ht hI => by
   obtain ⟨y12, y13, rfl, rfl, rfl⟩ := hI
   obtain ⟨q, rfl, hq, hqi⟩ := intsT_k ht
   have eq : q = ((u + c : Nat) : Int) := by lia
   subst eq
   obtain ⟨h0, h1⟩ := pw_b hp (i + 1) c
   have hmu : fMulA (.int (pw p (i + 1) c)) (.int (i + 1)) = some (.int (pw p (i + 1) c * (i + 1))) := fMulA_r _ _ (by lia) (by lia)
   have hmd : fMod (.int (pw p (i + 1) c * (i + 1))) (.int p) = some (.int (pw p (i + 1) (c + 1))) := fMod_int _ _ (by lia)
   have hl := layD_len p (i + 1) D u c
   have hput : putAtD (.cel N.length) (.int ((u + c : Nat) : Int)) (.int (pw p (i + 1) (c + 1))) (N ++ [(true, .dct (layD p (i + 1) D u c))]) = some (N ++ [(true, .dct (layD p (i + 1) D u (c + 1)))]) := by
    rw [putAtD_at (kts := layD p (i + 1) D u c) (by simp) (by unfold szL; lia), st_set0]; rfl
   refine ⟨_, _, _, rfl, ?_, _, some (.val (.int ((u + c : Nat) : Int))), rfl, rfl, rfl⟩
   unfold lpB
   simp (disch := first | decide | omega | assumption) only [stw, stc, Nat.reduceAdd, Nat.reduceSub, hmu, hmd, hput])
  (e := [some (.val (.int p)), x1, x2, x3, x4, x5, x6, x7, x8, x9, some (.val (.int i)), some (.cel N.length), some (.val (.int 1)), x13]) (μ := N ++ [(true, .dct D)]) ⟨_, x13, rfl, rfl, rfl⟩
 rw [intsT_len] at hf
 exact ⟨y12, y13, hf⟩
noncomputable def rowsB (F : FN) : DS := (sSeq (sExtend (dVar 5) (dCall (cal F) [(dVar 0), (dVar 8), (dCall (cal fV_with_powers) [(dVar 0), (dVar 2), (dVar 3), (dVar 4), (dVar 7)]), (dVar 6)]))
 (sSet 6 (dBin fAdd (dVar 6) (dCall (cal (fV_places_taken 8)) [(dVar 8)]))))
noncomputable def laidB (G : FN) : DS := (sSeq (sSet 11 (dCell (dUn fDictC (dVar 2))))
 (sSeq (sSet 12 (dC (.int 1)))
 (sSeq (sFor (iRange2 (dVar 8) (dBin fSub (dBin fAdd (dVar 8) (dVar 6)) (dC (.int 1)))) (bName 13) lpB)
 (sSet 9 (dAnd (dCall (cal G) [(dVar 0), (dIdx (dVar 7) (dVar 10)), (dVar 11), (dVar 3), (dVar 4)]) (dVar 9))))))
theorem laidB_ok {G : FN} {p : Int} {d : Nat} (hp : 2 ≤ p) (hp2 : p < 1000) {x : T} {D : List (Key × T)} (hD : D.length ≤ 1000) {u v m : Nat} (hm : m ≤ 20) (hu : u ≤ 1000) {i : Nat} (hi : i < 50) {lr : List T} (hG : LaidP G p d x (layD p ((i : Int) + 1) D u m) v lr)
  {RL : List T} (hx : RL[i]? = some x) (N : Store) (ks kr : Nat) (xl : SV) (acc : List T) (h1 : N[ks]? = some (true, .lst [.int v])) (h2 : N[kr]? = some (true, .lst acc)) (h3 : ks ≠ kr) (h4 : rd N xl = some (.dct D)) (h5 : xl ≠ .cel ks) (h6 : xl ≠ .cel kr) (h7 : acc.length + lr.length ≤ 1000) (x1 x5 x11 x12 x13 : Option SV) (good : Bool) :
  ∃ (N' : Store) (y11 y12 y13 : Option SV), laidB G [some (.val (.int p)), x1, some xl, some (.cel ks), some (.cel kr), x5, some (.val (.int ((m : Int) + 1))), some (.val (.tup RL)), some (.val (.int u)), some (.val (.bl good)), some (.val (.int i)), x11, x12, x13] N =
   .nx [some (.val (.int p)), x1, some xl, some (.cel ks), some (.cel kr), x5, some (.val (.int ((m : Int) + 1))), some (.val (.tup RL)), some (.val (.int u)), some (.val (.bl (good && !crw p d x))), some (.val (.int i)), y11, y12, y13] N' ∧
   N'.length = N.length + 1 ∧ N'[ks]? = some (true, .lst [.int ((v + plc d x : Nat) : Int)]) ∧ N'[kr]? = some (true, .lst (acc ++ lr)) ∧ ∀ j, j < N.length → j ≠ ks → j ≠ kr → N'[j]? = N[j]? := by
 have l1 : ks < N.length := (List.getElem?_eq_some_iff.mp h1).1
 have l2 : kr < N.length := (List.getElem?_eq_some_iff.mp h2).1
 have hdc : fDictC (.dct D) = some (.dct D) := rfl
 have rn : (rngOk (u : Int) && rngOk ((u : Int) + ((m : Int) + 1) - 1)) = true := by rw [rngOk_of (by lia) (by lia), rngOk_of (by lia) (by lia)]; rfl
 obtain ⟨y12, y13, hf⟩ := lp_ok hp hp2 D hD u m hm (i : Int) (by lia) N x1 (some xl) (some (.cel ks)) (some (.cel kr)) x5 (some (.val (.int ((m : Int) + 1)))) (some (.val (.tup RL))) (some (.val (.int u))) (some (.val (.bl good))) x13
 obtain ⟨M', e1, e2, e3, e4, e5⟩ := hG (N ++ [(true, .dct (layD p ((i : Int) + 1) D u m))]) ks kr (.cel N.length) acc (by rw [List.getElem?_append_left l1]; exact h1) (by rw [List.getElem?_append_left l2]; exact h2) h3 (by rw [rd_cel, st_get0]; rfl) (fun e => by cases e; exact Nat.lt_irrefl _ l1) (fun e => by cases e; exact Nat.lt_irrefl _ l2) h7
 have hat : atI RL (i : Int) = some x := by rw [atI_nat (by lia), Int.toNat_natCast]; exact hx
 have hcnt : ((u : Int) + ((m : Int) + 1) - 1 - (u : Int)).toNat = m := by lia
 refine ⟨M', some (.cel N.length), y12, y13, ?_, by rw [e2]; simp, e3, e4, fun j hj j1 j2 => ?_⟩
 ·have hf2 : forL (fun _ => True) (bName 13) lpB (intsT (u : Int) ((u : Int) + ((m : Int) + 1) - 1 - (u : Int)).toNat) [some (.val (.int p)), x1, some xl, some (.cel ks), some (.cel kr), x5, some (.val (.int ((m : Int) + 1))), some (.val (.tup RL)), some (.val (.int u)), some (.val (.bl good)), some (.val (.int i)), some (.cel N.length), some (.val (.int 1)), x13] (N ++ [(true, .dct D)]) = RS.nx [some (.val (.int p)), x1, some xl, some (.cel ks), some (.cel kr), x5, some (.val (.int ((m : Int) + 1))), some (.val (.tup RL)), some (.val (.int u)), some (.val (.bl good)), some (.val (.int i)), some (.cel N.length), y12, y13] (N ++ [(true, .dct (layD p ((i : Int) + 1) D u m))]) := by
   rw [hcnt]; exact hf
  unfold laidB
  cases hc : crw p d x with
  | true =>
   rw [hc] at e1
   simp (disch := first | decide | omega | assumption) only [stw, stc, Nat.reduceAdd, Nat.reduceSub, h4, hdc, rn, hf2, hat, e1]
   rw [Bool.and_false]
  | false =>
   rw [hc] at e1
   simp (disch := first | decide | omega | assumption) only [stw, stc, Nat.reduceAdd, Nat.reduceSub, h4, hdc, rn, hf2, hat, e1]
   rw [Bool.and_true]
 ·rw [e5 j j1 j2 (fun e => by cases e; exact Nat.lt_irrefl _ hj), List.getElem?_append_left hj]
noncomputable def LLoop (G : FN) (p : Int) (d : Nat) (xs : List T) (D : List (Key × T)) (u v m i : Nat) (lr : List T) : Prop :=
 ∀ (RL : List T), RL.drop i = xs → RL.length ≤ 10 → ∀ (N : Store) (ks kr : Nat) (xl : SV) (acc : List T), N[ks]? = some (true, .lst [.int v]) → N[kr]? = some (true, .lst acc) → ks ≠ kr → rd N xl = some (.dct D) → xl ≠ .cel ks → xl ≠ .cel kr → acc.length + lr.length ≤ 1000 → ∀ (x1 x5 x10 x11 x12 x13 : Option SV) (good : Bool),
  ∃ (N' : Store) (y10 y11 y12 y13 : Option SV), forL (fun _ => True) (bName 10) (laidB G) (intsT (i : Int) xs.length) [some (.val (.int p)), x1, some xl, some (.cel ks), some (.cel kr), x5, some (.val (.int ((m : Int) + 1))), some (.val (.tup RL)), some (.val (.int u)), some (.val (.bl good)), x10, x11, x12, x13] N =
   .nx [some (.val (.int p)), x1, some xl, some (.cel ks), some (.cel kr), x5, some (.val (.int ((m : Int) + 1))), some (.val (.tup RL)), some (.val (.int u)), some (.val (.bl (good && !xs.any (crw p d)))), y10, y11, y12, y13] N' ∧
   N.length ≤ N'.length ∧ N'[ks]? = some (true, .lst [.int ((v + (xs.map (plc d)).sum : Nat) : Int)]) ∧ N'[kr]? = some (true, .lst (acc ++ lr)) ∧ ∀ j, j < N.length → j ≠ ks → j ≠ kr → N'[j]? = N[j]?
noncomputable def MLoop (F : FN) (p : Int) (xs : List T) (L : List Int) (u v m j : Nat) (rows : Rows) : Prop :=
 ∀ (μ : Store) (acc : Rows) (x1 x7 x8 : Option SV), acc.length + rows.length ≤ 1000 → ∃ (x6 y7 y8 : Option SV), forL (fun _ => True) (bTup [7, 8]) (rowsB F) (enumT (j : Int) xs) [some (.val (.int p)), x1, some (.val (li L)), some (.val (.int u)), some (.val (.int m)), some (.cel μ.length), some (.val (.int v)), x7, x8] (μ ++ [(true, .lst (acc.map rt))]) =
   .nx [some (.val (.int p)), x1, some (.val (li L)), some (.val (.int u)), some (.val (.int m)), some (.cel μ.length), x6, y7, y8] (μ ++ [(true, .lst ((acc ++ rows).map rt))])
theorem loops {F G : FN} {p : Int} {w d : Nat} (hp : 2 ≤ p) (hp2 : p < 1000) (hw : w ≤ 1000) (hd : d ≤ 7) {L : List Int} {D : List (Key × T)} (hL : Rw p w L) (hD : Lk w L D) (hl : D.length + 10 * (d + 1) ≤ 1000) {u m : Nat} (hu : u + m ≤ w) (hm : m ≤ 9) :
  ∀ (xs : List T) (i v : Nat), (∀ x ∈ xs, IsR d x ∧ Jt F G p w d x) → i + xs.length ≤ 10 → v + (xs.map (plc d)).sum ≤ w →
  ∃ (rows : Rows) (lr : List T), RelR w rows lr ∧ rows.length = (xs.map (cnt d)).sum ∧ Fine p w rows ∧ MLoop F p xs L u v m (i + 1) rows ∧ LLoop G p d xs D u v m i lr
 | [], i, v, _, _, _ => by
  have f0 : Fine p w [] := fun q hq => by cases hq
  have m0 : MLoop F p [] L u v m (i + 1) [] := fun μ acc x1 x7 x8 _ => ⟨some (.val (.int v)), x7, x8, by simp [enumT, forL]⟩
  refine ⟨[], [], .nil, rfl, f0, m0, ?_⟩
  intro RL hR hR2 N ks kr xl acc h1 h2 h3 h4 h5 h6 h7 x1 x5 x10 x11 x12 x13 good
  refine ⟨N, x10, x11, x12, x13, ?_, Nat.le_refl _, by rw [h1]; simp, by rw [h2, List.append_nil], fun _ _ _ _ => rfl⟩
  rw [List.length_nil, intsT, forL, if_pos trivial, List.any_nil, Bool.not_false, Bool.and_true]
 | x :: xs, i, v, hx, hi, hv => by
  rw [List.map_cons, List.sum_cons] at hv
  rw [List.length_cons] at hi
  obtain ⟨hxr, hxj⟩ := hx x List.mem_cons_self
  have hlen := layD_len p ((i : Int) + 1) D u m
  obtain ⟨rows1, lr1, a1, a2, a3, a4, a5⟩ := hxj (layP p ((i : Int) + 1) L u m) (layD p ((i : Int) + 1) D u m) v (layP_rw hp hL _ u m) (lay_lk hD _ u m hu) (by lia) (by lia)
  obtain ⟨rows2, lr2, b1, b2, b3, b4, b5⟩ := loops hp hp2 hw hd hL hD hl hu hm xs (i + 1) (v + plc d x) (fun y hy => hx y (List.mem_cons_of_mem _ hy)) (by lia) (by lia)
  refine ⟨rows1 ++ rows2, lr1 ++ lr2, a1.append b1, by rw [List.length_append, List.map_cons, List.sum_cons, a2, b2], a3.append b3, ?_, ?_⟩
  ·intro μ acc x1 x7 x8 hc
   rw [List.length_append] at hc
   have e1 := powers_ok hp (by lia) hL hw u m hu ((i : Int) + 1) (by lia) (μ ++ [(true, .lst (acc.map rt))])
   have e2 := a4 (μ ++ [(true, .lst (acc.map rt))])
   have e3 := places_ok d 7 x hxr (by lia) (μ ++ [(true, .lst ((acc ++ rows1).map rt))])
   have hex : extendAt (.cel μ.length) (.lst (rows1.map rt)) (μ ++ [(true, .lst (acc.map rt))]) = some (μ ++ [(true, .lst ((acc ++ rows1).map rt))]) := by
    rw [extend_st0 _ _ _ (by simp [szL]; lia), List.map_append]
   have hb : rowsB F [some (.val (.int p)), x1, some (.val (li L)), some (.val (.int u)), some (.val (.int m)), some (.cel μ.length), some (.val (.int v)), some (.val (.int ((i : Int) + 1))), some (.val x)] (μ ++ [(true, .lst (acc.map rt))]) =
     .nx [some (.val (.int p)), x1, some (.val (li L)), some (.val (.int u)), some (.val (.int m)), some (.cel μ.length), some (.val (.int ((v : Int) + (plc d x : Nat)))), some (.val (.int ((i : Int) + 1))), some (.val x)] (μ ++ [(true, .lst ((acc ++ rows1).map rt))]) := by
    unfold rowsB
    dsimp! only [sExtend_is, lsts_st0, e1, e2, hex, e3]
   obtain ⟨x6, y7, y8, g3⟩ := b4 μ (acc ++ rows1) x1 (some (.val (.int ((i : Int) + 1)))) (some (.val x)) (by rw [List.length_append]; lia)
   refine ⟨x6, y7, y8, ?_⟩
   rw [enumT, forL, if_pos trivial]
   rw [show (((i + 1 : Nat) : Nat) : Int) = (i : Int) + 1 by lia]
   simp only [bTup_pair, List.set_cons_succ, List.set_cons_zero, hb]
   rw [show (((i + 1 + 1 : Nat) : Nat) : Int) = (i : Int) + 1 + 1 by lia, show ((v + plc d x : Nat) : Int) = (v : Int) + (plc d x : Nat) by lia] at g3
   rw [g3, List.append_assoc]
  ·intro RL hR hR2 N ks kr xl acc h1 h2 h3 h4 h5 h6 h7 x1 x5 x10 x11 x12 x13 good
   rw [List.length_append] at h7
   have hxi : RL[i]? = some x := by
    have : (RL.drop i)[0]? = some x := by rw [hR]; rfl
    rw [List.getElem?_drop, Nat.add_zero] at this
    exact this
   have hdr : RL.drop (i + 1) = xs := by rw [← List.drop_drop, hR]; rfl
   obtain ⟨N1, y11, y12, y13, c1, c2, c3, c4, c5⟩ := laidB_ok hp hp2 (by lia) (by lia) (by lia) (by lia) a5 hxi N ks kr xl acc h1 h2 h3 h4 h5 h6 (by lia) x1 x5 x11 x12 x13 good
   have h4' : rd N1 xl = some (.dct D) := by
    cases xl with
    | val t => exact h4
    | cel j =>
     rw [rd_cel] at h4 ⊢
     have hj : j < N.length := by
      cases q : N[j]? with
      | none => rw [q] at h4; cases h4
      | some y => exact (List.getElem?_eq_some_iff.mp q).1
     rw [c5 j hj (fun e => h5 (by rw [e])) (fun e => h6 (by rw [e]))]
     exact h4
    | box xs => cases h4
   obtain ⟨N2, z10, z11, z12, z13, d1, d2, d3, d4, d5⟩ := b5 RL hdr hR2 N1 ks kr xl (acc ++ lr1) c3 c4 h3 h4' h5 h6 (by rw [List.length_append]; lia) x1 x5 (some (.val (.int i))) y11 y12 y13 (good && !crw p d x)
   refine ⟨N2, z10, z11, z12, z13, ?_, by lia, ?_, by rw [d4, List.append_assoc], fun j hj j1 j2 => by rw [d5 j (by lia) j1 j2, c5 j hj j1 j2]⟩
   ·rw [List.length_cons, intsT, forL, if_pos trivial]
    simp only [bName_is, List.set_cons_succ, List.set_cons_zero, c1]
    rw [show (((i + 1 : Nat) : Nat) : Int) = (i : Int) + 1 by lia] at d1
    rw [d1, List.any_cons, Bool.not_or, Bool.and_assoc]
   ·rw [d3, List.map_cons, List.sum_cons, Nat.add_assoc]
theorem jt_some {F G : FN} {p : Int} {w d : Nat} (hp : 2 ≤ p) (hp2 : p < 1000) (hw : w ≤ 1000) (hd : d ≤ 7) {k : Int} {r : T} {rs : List T} (h1 : 1 ≤ k) (h2 : k ≤ rs.length + 1) (h3 : rs.length + 1 ≤ 10) (hx : ∀ x ∈ r :: rs, IsR d x ∧ Jt F G p w d x) (hc : ((r :: rs).map (cnt d)).sum ≤ 1000) :
  Jt (fnV 9 (b_rows_made F)) (fnV 14 (b__law_laid G)) p w (d + 1) (som k (r :: rs)) := by
 intro L D v hL hD hv hl
 rw [plc_som] at hv
 obtain ⟨m, rfl⟩ : ∃ m : Nat, k = (m : Int) + 1 := ⟨(k - 1).toNat, by lia⟩
 rw [show ((m : Int) + 1).toNat - 1 = m by lia] at hv
 obtain ⟨rows, lr, a1, a2, a3, a4, a5⟩ := loops (F := F) (G := G) hp hp2 hw hd hL hD hl (u := v) (m := m) (by lia) (by lia) (r :: rs) 0 (v + m) hx (by simp; lia) (by lia)
 refine ⟨rows, lr, a1, by rw [a2, cnt_som], a3, ?_, ?_⟩
 ·intro μ
  have ho := own_ok h1 (r :: rs) μ
  rw [show ((m : Int) + 1).toNat - 1 = m by lia] at ho
  obtain ⟨x6, y7, y8, g3⟩ := a4 μ [] (some (.val (som ((m : Int) + 1) (r :: rs)))) none none (by rw [a2]; simpa using hc)
  rw [show (((0 + 1 : Nat) : Nat) : Int) = 1 from rfl, Int.natCast_add, List.nil_append, List.map_nil] at g3
  rw [show b_rows_made F = (sSeq (sIf (dCall (cal fV_is_hand) [(dVar 1)]) (sRet (dLst [(dTup [(dIdx (dVar 1) (dC (.int 1))), (dUn fTuple (dVar 2))])])) sNil)
    (sSeq (sSet 4 (dCall (cal fV_own_places) [(dVar 1)]))
    (sSeq (sSet 5 (dCell (dLst [])))
    (sSeq (sSet 6 (dBin fAdd (dVar 3) (dVar 4)))
    (sSeq (sFor (iEnum1 (dIdx (dVar 1) (dC (.int 2)))) (bTup [7, 8]) (rowsB F))
    (sRet (dVar 5))))))) from rfl]
  simp! only [hand_no', ho, iEnum1_is, tupItems, g3, ice_st0]
 ·intro M ks kr x acc q1 q2 q3 q4 q5 q6 q7
  have l1 : ks < M.length := (List.getElem?_eq_some_iff.mp q1).1
  have l2 : kr < M.length := (List.getElem?_eq_some_iff.mp q2).1
  have z := some_lt
  have i0 : idxS M (.cel ks) (.int 0) = some (.val (.int v)) := by rw [idxS_cel, rd_cel, q1]; rfl
  have s0 : setAt (.cel ks) (.int 0) (.int ((v : Int) + ((m : Int) + 1) - 1)) M = some (M.set ks (true, .lst [.int ((v + m : Nat) : Int)])) := by
   rw [setAt_at (ts := [.int v]) q1 (by lia) (by simp)]
   rw [show (v : Int) + ((m : Int) + 1) - 1 = ((v + m : Nat) : Int) by lia]; rfl
  obtain ⟨M1, hM1⟩ : ∃ M1, M.set ks (true, .lst [.int ((v + m : Nat) : Int)]) = M1 := ⟨_, rfl⟩
  rw [hM1] at s0
  have k1 : M1[ks]? = some (true, .lst [.int ((v + m : Nat) : Int)]) := by rw [← hM1, List.getElem?_set_self l1]
  have k2 : M1[kr]? = some (true, .lst acc) := by rw [← hM1, List.getElem?_set_ne q3]; exact q2
  have k3 : ∀ j, j ≠ ks → M1[j]? = M[j]? := fun j hj => by rw [← hM1, List.getElem?_set_ne (fun e => hj e.symm)]
  have k4 : M1.length = M.length := by rw [← hM1, List.length_set]
  have k5 : rd M1 x = some (.dct D) := by
   cases x with
   | val t => exact q4
   | cel j => rw [rd_cel] at q4 ⊢; rw [k3 j (fun e => q5 (by rw [e]))]; exact q4
   | box xs => cases q4
  obtain ⟨N', y10, y11, y12, y13, g1, g2, g3, g4, g5⟩ := a5 (r :: rs) (List.drop_zero) h3 M1 ks kr x acc k1 k2 q3 k5 q5 q6 (by lia) (some (.val (som ((m : Int) + 1) (r :: rs)))) (some (.val (.str "some"))) none none none none (((m : Int) + 1 == 1) || decide (((rs.length + 1 : Nat) : Int) < p))
  have hg : (((((m : Int) + 1 == 1) || decide (((rs.length + 1 : Nat) : Int) < p)) && !(r :: rs).any (crw p d)) : Bool) = !crw p (d + 1) (som ((m : Int) + 1) (r :: rs)) := by
   rw [crw_som, Bool.not_or]
   congr 1
   rw [Bool.not_and]
   congr 1
   ·by_cases c : (m : Int) + 1 = 1
    ·rw [c]; rfl
    ·rw [beq_eq_false_iff_ne.mpr c, decide_eq_true (by lia)]; rfl
   ·rw [List.length_cons, ← decide_not, decide_eq_decide]
    lia
  rw [hg] at g1
  have rn : rngOk ((rs.length + 1 : Nat) : Int) = true := rngOk_of (by lia) (by lia)
  have g1 : forL (fun _ => True) (bName 10) (laidB G) (intsT 0 ((rs.length + 1 : Nat) : Int).toNat) [some (.val (.int p)), some (.val (som ((m : Int) + 1) (r :: rs))), some x, some (.cel ks), some (.cel kr), some (.val (.str "some")), some (.val (.int ((m : Int) + 1))), some (.val (.tup (r :: rs))), some (.val (.int v)), some (.val (.bl (((m : Int) + 1 == 1) || decide (((rs.length + 1 : Nat) : Int) < p)))), none, none, none, none] M1 = .nx [some (.val (.int p)), some (.val (som ((m : Int) + 1) (r :: rs))), some x, some (.cel ks), some (.cel kr), some (.val (.str "some")), some (.val (.int ((m : Int) + 1))), some (.val (.tup (r :: rs))), some (.val (.int v)), some (.val (.bl (!crw p (d + 1) (som ((m : Int) + 1) (r :: rs))))), y10, y11, y12, y13] N' := by
   rw [Int.toNat_natCast]; exact g1
  have htk : ∀ j, j < M.length → (N'.take M.length)[j]? = N'[j]? := fun j hj => List.getElem?_take_of_lt hj
  refine ⟨N'.take M.length, ?_, by rw [List.length_take]; lia, ?_, by rw [htk kr l2, g4], fun j j1 j2 j3 => ?_⟩
  ·generalize crw p (d + 1) (som ((m : Int) + 1) (r :: rs)) = C at *
   rw [show b__law_laid G = (sSeq (sIf (dBin fEq (dIdx (dVar 1) (dC (.int 0))) (dC (.str "hand"))) (sSeq (sAppend (dVar 4) (dTup [(dIdx (dVar 1) (dC (.int 1))), (dVar 2)])) (sRet (dC (.bl true)))) sNil)
    (sSeq (sUnp [5, 6, 7] (dVar 1))
    (sSeq (sSet 8 (dIdx (dVar 3) (dC (.int 0))))
    (sSeq (sSetItem 3 (dC (.int 0)) (dBin fSub (dBin fAdd (dVar 8) (dVar 6)) (dC (.int 1))))
    (sSeq (sSet 9 (dOr (dBin fEq (dVar 6) (dC (.int 1))) (dBin fLt (dLen (dVar 7)) (dVar 0))))
    (sSeq (sFor (iRange1 (dLen (dVar 7))) (bName 10) (laidB G))
    (sRet (dVar 9)))))))) from rfl]
   by_cases c : (m : Int) + 1 = 1
   ·have c' : ((m : Int) + 1 == 1) = true := by rw [c]; rfl
    rw [c', Bool.true_or] at g1
    simp (disch := first | decide | omega | assumption) only [stw, stc, Nat.reduceAdd, Nat.reduceSub, z, i0, s0, c', rn, g1]
   ·have c' : ((m : Int) + 1 == 1) = false := beq_eq_false_iff_ne.mpr c
    rw [c', Bool.false_or] at g1
    simp (disch := first | decide | omega | assumption) only [stw, stc, Nat.reduceAdd, Nat.reduceSub, z, i0, s0, c', rn, g1]
  ·rw [htk ks l1, g3, plc_som, show ((m : Int) + 1).toNat - 1 = m by lia, Nat.add_assoc]
  ·by_cases hj : j < M.length
   ·rw [htk j hj, g5 j (by lia) j1 j2, k3 j j1]
   ·rw [List.getElem?_eq_none (by rw [List.length_take]; lia), List.getElem?_eq_none (by lia)]
end Fw.k22
namespace Fw.k22
open PySem Fw Fw.H Fw.E Fw.F Fw.U
theorem cnt_mem {d : Nat} {x : T} : ∀ {l : List T}, x ∈ l → cnt d x ≤ (l.map (cnt d)).sum
 | a :: l, h => by
  rw [List.map_cons, List.sum_cons]
  rcases List.mem_cons.mp h with rfl | h
  ·lia
  ·have := cnt_mem (d := d) h; lia
theorem joint {p : Int} {w : Nat} (hp : 2 ≤ p) (hp2 : p < 1000) (hw : w ≤ 1000) : ∀ (d n : Nat) (t : T), IsR d t → d ≤ n → d ≤ 8 → cnt d t ≤ 1000 → Jt (fV_rows_made (n + 1)) (fV__law_laid (n + 1)) p w d t := by
 intro d
 induction d with
 | zero =>
  rintro n t ⟨h, h0, h9, rfl⟩ hn h8 hc
  exact jt_hand (fV_rows_made n) (fV__law_laid n) 0 h0 h9
 | succ d ih =>
  rintro n t ht hn h8 hc
  obtain ⟨m, rfl⟩ : ∃ m, n = m + 1 := ⟨n - 1, by lia⟩
  rcases ht with ⟨h, h0, h9, rfl⟩ | ⟨k, r, rs, rfl, h1, h2, h3, h4⟩
  ·exact jt_hand (fV_rows_made (m + 1)) (fV__law_laid (m + 1)) (d + 1) h0 h9
  ·rw [cnt_som] at hc
   exact jt_some hp hp2 hw (by lia) h1 h2 h3 (fun x hx => ⟨h4 x hx, ih m x (h4 x hx) (by lia) (by lia) (Nat.le_trans (cnt_mem hx) hc)⟩) hc
theorem g_rep (n i : Nat) : g (List.replicate n 0) i = 0 := by
 unfold g
 rw [List.getD_eq_getElem?_getD]
 by_cases h : i < n
 ·rw [List.getElem?_replicate_of_lt h]; rfl
 ·rw [List.getElem?_eq_none (by rw [List.length_replicate]; lia)]; rfl
theorem start_lk (q : Nat) : Lk (1 + q) (1 :: List.replicate q 0) [(.inl 0, .int 1)] := by
 refine ⟨by simp; lia, fun i hi => ?_⟩
 cases i with
 | zero => rfl
 | succ i =>
  have e : valT [((.inl 0 : Key), T.int 1)] (.inl ((i + 1 : Nat) : Int)) = none := by
   unfold valT
   rw [List.find?_cons, decide_eq_false (fun z => by have : (0 : Int) = ((i + 1 : Nat) : Int) := Sum.inl.inj z; lia)]; rfl
  rw [e]
  show T.int 0 = .int (g (List.replicate q 0) i)
  rw [g_rep]
theorem start_rw {p : Int} (hp : 2 ≤ p) (q : Nat) : Rw p (1 + q) (1 :: List.replicate q 0) := by
 refine ⟨by simp; lia, fun x hx => ?_, fun x hx => ?_⟩
 ·rcases List.mem_cons.mp hx with rfl | hx
  ·lia
  ·rw [List.eq_of_mem_replicate hx]; lia
 ·rcases List.mem_cons.mp hx with rfl | hx
  ·lia
  ·rw [List.eq_of_mem_replicate hx]; lia
structure Due (p : Int) (t : T) (rows : Rows) (lr : List T) : Prop where
 rel : RelR (1 + plc 4 t) rows lr
 len : rows.length = cnt 4 t
 fine : Fine p (1 + plc 4 t) rows
 made : MadeP (fV_rows_made 8) p t (1 :: List.replicate (plc 4 t) 0) 1 rows
 laid : LaidP (fV__law_laid 8) p 4 t [(.inl 0, .int 1)] 1 lr
theorem due_rows {p : Int} (hp : 2 ≤ p) (hp2 : p < 1000) {t : T} (ht : IsR 4 t) (hc : cnt 4 t ≤ 24) (hw : plc 4 t ≤ 900) : ∃ rows lr, Due p t rows lr := by
 obtain ⟨rows, lr, a, b, c, d, e⟩ := joint (w := 1 + plc 4 t) hp hp2 (by lia) 4 7 t ht (by lia) (by lia) (by lia) (1 :: List.replicate (plc 4 t) 0) [(.inl 0, .int 1)] 1 (start_rw hp _) (start_lk _) (Nat.le_refl _) (by show 1 + 10 * 4 ≤ 1000; lia)
 exact ⟨rows, lr, a, b, c, d, e⟩
theorem sRaise_is (n : Str) (e : Slots) (μ : Store) : sRaise n e μ = .err (.exc n none) e μ := (rfl)
theorem seq_err (c : T) (e : Slots) (μ : Store) (f : Slots → Store → RS) : (RS.err c e μ).seq f = .err c e μ := (rfl)
theorem endV_err (n : Nat) (c : T) (e : Slots) (μ : Store) : RS.endV n (.err c e μ) = .err c (μ.take n) := (rfl)
theorem toS_err {α : Type} (c : T) (e : Slots) (μ : Store) (f : α → Store → RS) : (R.err c μ : R α).toS e f = .err c e μ := (rfl)
theorem calm_rt {d : DS} {e : Slots} {μ μ' : Store} {x : SV} (h : d e μ = .rt x μ') : sCalm d e μ = .rt x μ' := by unfold sCalm; rw [h]
noncomputable def good (p : Int) (t : T) : Bool := decide (plc 4 t ≤ 11) && !crw p 4 t
theorem tableX_ok {p : Int} (hp : 2 ≤ p) (hp2 : p < 1000) {t : T} (ht : IsR 4 t) (hq : plc 4 t ≤ 900) {rows : Rows} {lr : List T} (hD : Due p t rows lr) (μ : Store) :
  fX_table_of [.val (.int p), .val t] μ = if good p t = true then .ok (.val (tb p (1 + plc 4 t : Nat) rows)) μ else .err (.exc "TooMany" none) μ := by
 have e1 : fV_places_taken 8 [.val t] μ = .ok (.val (.int ((plc 4 t : Nat) : Int))) μ := places_ok 4 7 t ht (by lia) μ
 have e2 : fV_is_crowded 8 [.val (.int p), .val t] μ = .ok (.val (.bl (crw p 4 t))) μ := crowd_ok 4 7 t ht (by lia) μ
 have e3 := hD.made μ
 unfold good
 generalize crw p 4 t = c at *
 generalize plc 4 t = q at *
 unfold fX_table_of bX_table_of
 by_cases h : q ≤ 11
 ·have c1 : decide ((12 : Int) < 1 + (q : Int)) = false := decide_eq_false (by lia)
  rw [decide_eq_true h, Bool.true_and]
  cases c with
  | true =>
   rw [Bool.not_true, if_neg Bool.false_ne_true]
   simp (disch := first | decide | omega | assumption) only [stw, stc, Nat.reduceAdd, Nat.reduceSub, e1, c1, e2, sRaise_is, seq_err, endV_err, List.take_length]
  | false =>
   rw [Bool.not_false, if_pos rfl]
   have e4 : fRep (.lst [.int 0]) (.int (1 + (q : Int) - 1)) = some (li (List.replicate q 0)) := by
    rw [show (1 + (q : Int) - 1) = (q : Int) by lia]
    exact rep0 q (by lia)
   have e5 : fAdd (.lst [.int 1]) (li (List.replicate q 0)) = some (li (1 :: List.replicate q 0)) := by
    rw [fAdd_lst _ _ (by simp [szL]; lia)]; simp
   have e6 : sCalm (sRet (dTup [(dVar 0), (dVar 2), (dUn fTuple (dCall (cal (fV_rows_made 8)) [(dVar 0), (dVar 1), (dBin fAdd (dLst [(dC (.int 1))]) (dRep fRep [(dC (.int 0))] (dBin fSub (dVar 2) (dC (.int 1))))), (dC (.int 1))]))])) [some (.val (.int p)), some (.val t), some (.val (.int (1 + (q : Int))))] μ = .rt (.val (tb p (1 + q : Nat) rows)) μ := by
    refine calm_rt ?_
    have e3 : fV_rows_made 8 [.val (.int p), .val t, .val (li (1 :: List.replicate q 0)), .val (.int 1)] μ = .ok (.val (.lst (rows.map rt))) μ := e3
    generalize li (1 :: List.replicate q 0) = L at e3 e5
    generalize li (List.replicate q 0) = L0 at e4 e5
    unfold tb
    generalize fRep = fr at e4 ⊢
    simp (disch := first | decide | omega | assumption) only [stw, stc, Nat.reduceAdd, Nat.reduceSub, dRep_is, e4, e5, e3, Int.natCast_add, Int.natCast_one]
   generalize sCalm (sRet (dTup [(dVar 0), (dVar 2), (dUn fTuple (dCall (cal (fV_rows_made 8)) [(dVar 0), (dVar 1), (dBin fAdd (dLst [(dC (.int 1))]) (dRep fRep [(dC (.int 0))] (dBin fSub (dVar 2) (dC (.int 1))))), (dC (.int 1))]))])) = D6 at e6
   simp (disch := first | decide | omega | assumption) only [stw, stc, Nat.reduceAdd, Nat.reduceSub, e1, c1, e2, e6]
 ·have c1 : decide ((12 : Int) < 1 + (q : Int)) = true := decide_eq_true (by lia)
  rw [decide_eq_false h, Bool.false_and, if_neg Bool.false_ne_true]
  simp (disch := first | decide | omega | assumption) only [stw, stc, Nat.reduceAdd, Nat.reduceSub, e1, c1, sRaise_is, seq_err, endV_err, List.take_length]
noncomputable def wholeB : DS := (sAppend (dVar 5) (dTup [(dVar 6), (dUn fTuple (dComp (iRange1 (dIdx (dVar 2) (dC (.int 0)))) [none, some 7] (bName 0) (dC (.bl true)) (dGetO (dVar 1) (dVar 0) 0)))]))
noncomputable abbrev st3 (μ : Store) (w : Nat) (lr acc : List T) : Store := μ ++ [(true, .lst [.int (w : Int)]), (true, .lst lr), (true, .lst acc)]
theorem wholeB_ok {w : Nat} (hw : w ≤ 1000) {h : Int} {L : List Int} {D : List (Key × T)} (hk : Lk w L D) (μ : Store) (lr acc : List T) (ha : acc.length ≤ 1000) (x0 x1 x3 x4 : Option SV) :
  wholeB [x0, x1, some (.cel μ.length), x3, x4, some (.cel (μ.length + 2)), some (.val (.int h)), some (.val (.dct D))] (st3 μ w lr acc) = .nx [x0, x1, some (.cel μ.length), x3, x4, some (.cel (μ.length + 2)), some (.val (.int h)), some (.val (.dct D))] (st3 μ w lr (acc ++ [rt (h, L)])) := by
 have hc := compL_ofA (same := fun _ => True) (b := bName 0) (d := dGetO (dVar 1) (dVar 0) 0) (e := [none, some (.val (.dct D))]) (μ := st3 μ w lr acc) (fun i : Nat => T.int (i : Int)) (fun i => .int (g L i)) trivial (List.range w) fun i hi => by
  have hi := List.mem_range.mp hi
  refine ⟨_, rfl, ?_⟩
  rw [dGetO_is]
  have e1 : fGetO (.dct D) (.int (i : Int)) 0 = some (.int (g L i)) := by
   show some ((valT D (.inl (i : Int))).getD (.int 0)) = _
   rw [hk.2 i hi]
  have e2 : asDct (.dct D) = some D := rfl
  simp (disch := first | decide | omega | assumption) only [stw, stc, Nat.reduceAdd, Nat.reduceSub, e2, Option.bind_some, Option.map_some]
  rw [e1]; rfl
 have hi : intsT 0 (w : Int).toNat = (List.range w).map fun k : Nat => T.int (k : Int) := by
  rw [intsT_eq]
  unfold irange
  rw [List.map_map]
  simp only [Function.comp_def, Int.zero_add]
  rw [Int.toNat_natCast]
 have hL : (List.range w).map (fun i => T.int (g L i)) = L.map T.int := by
  rw [← hk.1]
  apply List.ext_getElem
  ·simp
  ·intro i h1 h2
   simp only [List.length_map] at h2
   simp [g, List.getD_eq_getElem?_getD, h2]
 rw [hL, ← hi] at hc
 have rn : rngOk (w : Int) = true := rngOk_of (by lia) (by lia)
 have i0 : idxS (st3 μ w lr acc) (.cel μ.length) (.int 0) = some (.val (.int w)) := by rw [idxS_cel, rd_cel, st_get0]; rfl
 have hls : lsts (.cel (μ.length + 2)) (st3 μ w lr acc) = some () := lsts_at st_get2
 have hap : ∀ t, appendAt (.cel (μ.length + 2)) t (st3 μ w lr acc) = some (st3 μ w lr (acc ++ [t])) := fun t => by
  rw [append_at st_get2 (by unfold szL; lia), st_set2]
 have e1 : dComp (iRange1 (dIdx (dVar 2) (dC (.int 0)))) [none, some 7] (bName 0) (dC (.bl true)) (dGetO (dVar 1) (dVar 0) 0) [x0, x1, some (.cel μ.length), x3, x4, some (.cel (μ.length + 2)), some (.val (.int h)), some (.val (.dct D))] (st3 μ w lr acc) = .ok (.val (.lst (L.map T.int))) (st3 μ w lr acc) := by
  generalize dGetO (dVar 1) (dVar 0) 0 = Dg at hc
  simp (disch := first | decide | omega | assumption) only [stw, stc, Nat.reduceAdd, Nat.reduceSub, i0, rn]
  rw [hc, R.calm_ok, R.bind_ok, if_pos (by rw [intsT_len, Int.toNat_natCast]; unfold szL; lia)]
 unfold wholeB
 generalize dComp (iRange1 (dIdx (dVar 2) (dC (.int 0)))) [none, some 7] (bName 0) (dC (.bl true)) (dGetO (dVar 1) (dVar 0) 0) = Dc at e1
 generalize st3 μ w lr acc = M at *
 simp (disch := first | decide | omega | assumption) only [stw, stc, Nat.reduceAdd, Nat.reduceSub, hls, e1, hap]
 rfl
theorem whole_loop {w : Nat} (hw : w ≤ 1000) (μ : Store) (lr0 : List T) (x0 x1 x3 x4 : Option SV) (same : Store → Prop) (hs : ∀ acc, same (st3 μ w lr0 acc)) {rows : Rows} {lr : List T} (hr : RelR w rows lr) : ∀ (acc : List T) (x6 x7 : Option SV), acc.length + rows.length ≤ 1000 →
  ∃ y6 y7, forL same (bTup [6, 7]) wholeB lr [x0, x1, some (.cel μ.length), x3, x4, some (.cel (μ.length + 2)), x6, x7] (st3 μ w lr0 acc) = .nx [x0, x1, some (.cel μ.length), x3, x4, some (.cel (μ.length + 2)), y6, y7] (st3 μ w lr0 (acc ++ rows.map rt)) := by
 induction hr with
 | nil =>
  intro acc x6 x7 _
  refine ⟨x6, x7, ?_⟩
  rw [forL, if_pos (hs _), List.map_nil, List.append_nil]
 | @cons h L D rows lr hk _ ih =>
  intro acc x6 x7 ha
  rw [List.length_cons] at ha
  have hb := wholeB_ok hw (h := h) hk μ lr0 acc (by lia) x0 x1 x3 x4
  obtain ⟨y6, y7, e⟩ := ih (acc ++ [rt (h, L)]) (some (.val (.int h))) (some (.val (.dct D))) (by rw [List.length_append]; show acc.length + 1 + _ ≤ _; lia)
  refine ⟨y6, y7, ?_⟩
  rw [forL, if_pos (hs _)]
  simp only [bTup_pair, List.set_cons_succ, List.set_cons_zero, hb]
  rw [e, List.append_assoc]; rfl
theorem store_eq {μ M : Store} {a b : Bool × T} (hl : M.length = μ.length + 2) (h1 : M[μ.length]? = some a) (h2 : M[μ.length + 1]? = some b) (h3 : ∀ j, j ≠ μ.length → j ≠ μ.length + 1 → M[j]? = (μ ++ [a, b])[j]?) : M = μ ++ [a, b] := by
 apply List.ext_getElem?
 intro j
 by_cases c1 : j = μ.length
 ·subst c1; rw [h1, st_get0]
 ·by_cases c2 : j = μ.length + 1
  ·subst c2; rw [h2, st_get1]
  ·exact h3 j c1 c2
noncomputable def dueT (p : Int) (t : T) (rows : Rows) : T := if good p t = true then tb p (1 + plc 4 t : Nat) rows else .non
theorem due_ok {p : Int} {t : T} (hq : plc 4 t ≤ 900) (hc : cnt 4 t ≤ 24) {rows : Rows} {lr : List T} (hD : Due p t rows lr) (μ : Store) : fV__law_due [.val (.int p), .val t] μ = .ok (.val (dueT p t rows)) μ := by
 have hlen := hD.rel.len
 have hlr := hD.len
 obtain ⟨M, e1, e2, e3, e4, e5⟩ := hD.laid (μ ++ [(true, .lst [.int 1]), (true, .lst [])]) μ.length (μ.length + 1) (.val (.dct [(.inl 0, .int 1)])) [] st_get0 st_get1 (by lia) rfl (fun z => by cases z) (fun z => by cases z) (by simp; lia)
 rw [List.nil_append] at e4
 have hM : M = μ ++ [(true, .lst [.int ((1 + plc 4 t : Nat) : Int)]), (true, .lst lr)] := by
  refine store_eq (by rw [e2]; simp) e3 e4 fun j j1 j2 => ?_
  rw [e5 j j1 j2 (fun z => by cases z)]
  by_cases hj : j < μ.length
  ·rw [List.getElem?_append_left hj, List.getElem?_append_left hj]
  ·rw [List.getElem?_eq_none (by simp; lia), List.getElem?_eq_none (by simp; lia)]
 subst hM
 obtain ⟨y6, y7, hf⟩ := whole_loop (w := 1 + plc 4 t) (by lia) μ lr (some (.val (.int p))) (some (.val t)) (some (.cel (μ.length + 1))) (some (.val (.bl (!crw p 4 t)))) (fun μ' => rd μ' (.cel (μ.length + 1)) = some (.lst lr)) (fun acc => by rw [rd_cel, st_get1]; rfl) hD.rel [] none none (by simp; lia)
 rw [List.nil_append] at hf
 have hrel := hD.rel
 unfold dueT good
 unfold fV__law_due
 rw [show b__law_due = (sSeq (sSet 2 (dCell (dLst [(dC (.int 1))])))
  (sSeq (sSet 3 (dCell (dLst [])))
  (sSeq (sSet 4 (dCall (cal (fV__law_laid 8)) [(dVar 0), (dVar 1), (dC (.dct [(.inl 0, .int 1)])), (dVar 2), (dVar 3)]))
  (sSeq (sIf (dOr (dNot (dVar 4)) (dBin fGt (dIdx (dVar 2) (dC (.int 0))) (dC (.int 12)))) (sRet (dC (.non))) sNil)
  (sSeq (sSet 5 (dCell (dLst [])))
  (sSeq (sFor (iSeq (dVar 3)) (bTup [6, 7]) wholeB)
  (sRet (dTup [(dVar 0), (dIdx (dVar 2) (dC (.int 0))), (dUn fTuple (dVar 5))])))))))) from rfl]
 generalize hC : crw p 4 t = c at *
 generalize hQ : plc 4 t = q at *
 have e1 : fV__law_laid 8 [.val (.int p), .val t, .val (.dct [(.inl 0, .int 1)]), .cel μ.length, .cel (μ.length + 1)] (μ ++ [(true, .lst [.int 1]), (true, .lst [])]) = .ok (.val (.bl (!c))) (μ ++ [(true, .lst [.int ((1 + q : Nat) : Int)]), (true, .lst lr)]) := e1
 have i0 : idxS (μ ++ [(true, .lst [.int ((1 + q : Nat) : Int)]), (true, .lst lr)]) (.cel μ.length) (.int 0) = some (.val (.int ((1 + q : Nat) : Int))) := by rw [idxS_cel, rd_cel, st_get0]; rfl
 cases c with
 | true =>
  rw [Bool.not_true, Bool.and_false, if_neg Bool.false_ne_true]
  simp (disch := first | decide | omega | assumption) only [stw, stc, Nat.reduceAdd, Nat.reduceSub, List.append_assoc, List.cons_append, List.nil_append, List.length_append, List.length_cons, List.length_nil, e1]
  rw [List.take_left]
 | false =>
  rw [Bool.not_false, Bool.and_true]
  by_cases h : q ≤ 11
  ·have c1 : decide ((12 : Int) < ((1 + q : Nat) : Int)) = false := decide_eq_false (by lia)
   rw [decide_eq_true h, if_pos rfl]
   have i1 : idxS (st3 μ (1 + q) lr (rows.map rt)) (.cel μ.length) (.int 0) = some (.val (.int ((1 + q : Nat) : Int))) := by rw [idxS_cel, rd_cel, st_get0]; rfl
   have r3 : rd (st3 μ (1 + q) lr (rows.map rt)) (.cel (μ.length + 2)) = some (.lst (rows.map rt)) := by rw [rd_cel, st_get2]; rfl
   have r1 : rd (st3 μ (1 + q) lr []) (.cel (μ.length + 1)) = some (.lst lr) := by rw [rd_cel, st_get1]; rfl
   have hf : forL (fun μ' => rd μ' (.cel (μ.length + 1)) = rd (st3 μ (1 + q) lr []) (.cel (μ.length + 1))) (bTup [6, 7]) wholeB lr [some (.val (.int p)), some (.val t), some (.cel μ.length), some (.cel (μ.length + 1)), some (.val (.bl true)), some (.cel (μ.length + 2)), none, none] (st3 μ (1 + q) lr []) = .nx [some (.val (.int p)), some (.val t), some (.cel μ.length), some (.cel (μ.length + 1)), some (.val (.bl true)), some (.cel (μ.length + 2)), y6, y7] (st3 μ (1 + q) lr (rows.map rt)) := by
    rw [r1]; exact hf
   have e7 : (sSeq (sFor (iSeq (dVar 3)) (bTup [6, 7]) wholeB) (sRet (dTup [(dVar 0), (dIdx (dVar 2) (dC (.int 0))), (dUn fTuple (dVar 5))]))) [some (.val (.int p)), some (.val t), some (.cel μ.length), some (.cel (μ.length + 1)), some (.val (.bl true)), some (.cel (μ.length + 2)), none, none] (st3 μ (1 + q) lr []) = .rt (.val (tb p (1 + q : Nat) rows)) (st3 μ (1 + q) lr (rows.map rt)) := by
    rw [sSeq_is, sFor_is, iSeq_is, dVar_is]
    simp only [slot_succ, slot_zero, R.lift_some, R.bind_ok, r1, Option.bind_some, seqItems_lst, R.toS_ok]
    rw [← r1, hf, RS.seq_nx]
    unfold tb
    generalize st3 μ (1 + q) lr (rows.map rt) = M3 at *
    simp only [sRet_is, dTup_is, dArgs_cons, dVar_is, slot_succ, slot_zero, R.lift_some, R.bind_ok, dIdx_is, dC_is, rd_val, Option.bind_some, i1, dUn_is, r3, ap1_some, fTuple_lst, dArgs_nil, frzs_cons, frzs_nil, frz_val, R.toS_ok]
    rfl
   generalize (sSeq (sFor (iSeq (dVar 3)) (bTup [6, 7]) wholeB) (sRet (dTup [(dVar 0), (dIdx (dVar 2) (dC (.int 0))), (dUn fTuple (dVar 5))]))) = D7 at e7
   simp (disch := first | decide | omega | assumption) only [stw, stc, Nat.reduceAdd, Nat.reduceSub, List.append_assoc, List.cons_append, List.nil_append, List.length_append, List.length_cons, List.length_nil, e1, i0, c1, e7]
   rw [List.take_left]
  ·have c1 : decide ((12 : Int) < ((1 + q : Nat) : Int)) = true := decide_eq_true (by lia)
   rw [decide_eq_false h, if_neg Bool.false_ne_true]
   simp (disch := first | decide | omega | assumption) only [stw, stc, Nat.reduceAdd, Nat.reduceSub, List.append_assoc, List.cons_append, List.nil_append, List.length_append, List.length_cons, List.length_nil, e1, i0, c1]
   rw [List.take_left]
end Fw.k22
namespace Fw.k22
open PySem Fw Fw.H Fw.E Fw.F Fw.U
theorem whole_int (n : Int) (μ : Store) : fV_is_whole [.val (.int n)] μ = .ok (.val (.bl true)) μ := by
 unfold fV_is_whole b_is_whole
 simp (disch := first | decide | omega | assumption) only [stw, stc, Nat.reduceAdd, Nat.reduceSub, dIs_is, isS_val, isT_int, isK]
noncomputable def prs : List Int := [2, 3, 5, 7, 11, 13, 17, 19, 23, 29, 31, 37, 41, 43, 47, 53, 59, 61, 67, 71, 73, 79, 83, 89, 97]
theorem pr_all : ∀ p ∈ prs, ((irange 2 (p - 2).toNat).all fun k => !(p % k == 0)) = true := by decide +kernel
theorem prime_int {p : Int} (hP : IsPr p) (μ : Store) : fV_is_prime [.val (.int p)] μ = .ok (.val (.bl true)) μ := by
 have hb := hP.pos
 have ha := pr_all p hP
 have z1 : decide (p < 2) = false := decide_eq_false (by lia)
 have z2 : decide (97 < p) = false := decide_eq_false (by lia)
 have rn : (rngOk 2 && rngOk p) = true := by rw [rngOk_of (by lia) (by lia), rngOk_of (by lia) (by lia)]; rfl
 have hc := compL_all (same := fun _ => True) (b := bName 0) (d := dBin fNe (dBin fMod (dVar 1) (dVar 0)) (dC (.int 0))) (e := [none, some (.val (.int p))]) (μ := μ) (fun k => .bl (!(p % k == 0))) trivial (irange 2 (p - 2).toNat) fun k hk => by
  rw [mem_irange] at hk
  have : 0 < k := by lia
  exact ⟨_, rfl, by simp (disch := first | decide | omega | assumption) only [stw, stc, Nat.reduceAdd, Nat.reduceSub]⟩
 have e1 : dUn fAll (dComp (iRange2 (dC (.int 2)) (dVar 0)) [none, some 0] (bName 0) (dC (.bl true)) (dBin fNe (dBin fMod (dVar 1) (dVar 0)) (dC (.int 0)))) [some (.val (.int p))] μ = .ok (.val (.bl true)) μ := by
  have : dComp (iRange2 (dC (.int 2)) (dVar 0)) [none, some 0] (bName 0) (dC (.bl true)) (dBin fNe (dBin fMod (dVar 1) (dVar 0)) (dC (.int 0))) [some (.val (.int p))] μ = .ok (.val (.lst ((irange 2 (p - 2).toNat).map fun k => .bl (!(p % k == 0))))) μ := by
   generalize dBin fNe (dBin fMod (dVar 1) (dVar 0)) (dC (.int 0)) = D at hc
   simp (disch := first | decide | omega | assumption) only [stw, stc, Nat.reduceAdd, Nat.reduceSub, rn]
   rw [intsT_eq, hc, R.calm_ok, R.bind_ok, if_pos (by rw [List.length_map, irange_length]; unfold szL; lia)]
  rw [dUn_is, this, R.bind_ok, rd_val, ap1_some, fAll_map, ha]; rfl
 unfold fV_is_prime b_is_prime
 generalize dUn fAll (dComp (iRange2 (dC (.int 2)) (dVar 0)) [none, some 0] (bName 0) (dC (.bl true)) (dBin fNe (dBin fMod (dVar 1) (dVar 0)) (dC (.int 0)))) = D at e1
 simp (disch := first | decide | omega | assumption) only [stw, stc, Nat.reduceAdd, Nat.reduceSub, whole_int, z1, z2, e1]
theorem from_ok {a b n : Int} (h0 : a ≤ n) (h1 : n ≤ b) (μ : Store) : fV_is_from_to [.val (.int n), .val (.int a), .val (.int b)] μ = .ok (.val (.bl true)) μ := by
 have z0 : decide (a ≤ n) = true := decide_eq_true h0
 have z1 : decide (n ≤ b) = true := decide_eq_true h1
 have e4 : dChain fLe fLe (dVar 1) (dVar 0) (dVar 2) [some (.val (.int n)), some (.val (.int a)), some (.val (.int b))] μ = .ok (.val (.bl true)) μ := by
  rw [dChain_is]
  simp (disch := first | decide | omega | assumption) only [stw, stc, Nat.reduceAdd, Nat.reduceSub, z0, z1]
 unfold fV_is_from_to b_is_from_to
 generalize dChain fLe fLe (dVar 1) (dVar 0) (dVar 2) = D at e4
 simp (disch := first | decide | omega | assumption) only [stw, stc, Nat.reduceAdd, Nat.reduceSub, whole_int, e4]
theorem tup_ok (ts : List T) (m : Int) (h : (ts.length : Int) = m) (μ : Store) : fV_is_tuple_of [.val (.tup ts), .val (.int m)] μ = .ok (.val (.bl true)) μ := by
 have z : ((ts.length : Int) == m) = true := by rw [h]; simp
 unfold fV_is_tuple_of b_is_tuple_of
 simp (disch := first | decide | omega | assumption) only [stw, stc, Nat.reduceAdd, Nat.reduceSub, dIs_is, isS_val, isT_tup, isK, z]
variable {p : Int} {w : Nat} {rows : Rows}
theorem line_ok {L : List Int} (hL : Rw p w L) (hw : w ≤ 1000) (μ : Store) : fV_is_line [.val (tu L), .val (.int p), .val (.int w)] μ = .ok (.val (.bl true)) μ := by
 have hc := compL_ofA (same := fun _ => True) (b := bName 0) (d := dCall (cal fV_is_from_to) [(dVar 0), (dC (.int 0)), (dBin fSub (dVar 1) (dC (.int 1)))]) (e := [none, some (.val (.int p))]) (μ := μ) T.int (fun _ => .bl true) trivial L fun i hi => by
  have := from_ok (hL.lo i hi) (show i ≤ p - 1 by have := hL.hi i hi; lia) μ
  exact ⟨_, rfl, by simp (disch := first | decide | omega | assumption) only [stw, stc, Nat.reduceAdd, Nat.reduceSub, this]⟩
 have e1 : dUn fAll (dComp (iSeq (dVar 0)) [none, some 1] (bName 0) (dC (.bl true)) (dCall (cal fV_is_from_to) [(dVar 0), (dC (.int 0)), (dBin fSub (dVar 1) (dC (.int 1)))])) [some (.val (.tup (L.map T.int))), some (.val (.int p)), some (.val (.int w))] μ = .ok (.val (.bl true)) μ := by
  have : dComp (iSeq (dVar 0)) [none, some 1] (bName 0) (dC (.bl true)) (dCall (cal fV_is_from_to) [(dVar 0), (dC (.int 0)), (dBin fSub (dVar 1) (dC (.int 1)))]) [some (.val (.tup (L.map T.int))), some (.val (.int p)), some (.val (.int w))] μ = .ok (.val (.lst (L.map fun _ => .bl true))) μ := by
   generalize dCall (cal fV_is_from_to) [(dVar 0), (dC (.int 0)), (dBin fSub (dVar 1) (dC (.int 1)))] = D at hc
   simp (disch := first | decide | omega | assumption) only [stw, stc, Nat.reduceAdd, Nat.reduceSub]
   rw [hc, R.calm_ok, R.bind_ok, if_pos (by rw [List.length_map, hL.len]; unfold szL; lia)]
  rw [dUn_is, this, R.bind_ok, rd_val, ap1_some, fAll_map (fun _ => true)]
  simp
 have e2 := tup_ok (L.map T.int) (w : Int) (by rw [List.length_map, hL.len]) μ
 unfold fV_is_line b_is_line tu
 generalize dUn fAll (dComp (iSeq (dVar 0)) [none, some 1] (bName 0) (dC (.bl true)) (dCall (cal fV_is_from_to) [(dVar 0), (dC (.int 0)), (dBin fSub (dVar 1) (dC (.int 1)))])) = D at e1
 simp (disch := first | decide | omega | assumption) only [stw, stc, Nat.reduceAdd, Nat.reduceSub, e2, e1]
theorem row_ok {q : Int × List Int} (hq : Rw p w q.2 ∧ 0 ≤ q.1 ∧ q.1 < 10) (hw : w ≤ 1000) (μ : Store) : fV_is_row [.val (rt q), .val (.int p), .val (.int w)] μ = .ok (.val (.bl true)) μ := by
 have e1 := line_ok hq.1 hw μ
 have e2 := from_ok (a := 0) (b := 9) (n := q.1) hq.2.1 (by have := hq.2.2; lia) μ
 have e3 := tup_ok [.int q.1, tu q.2] 2 rfl μ
 unfold fV_is_row b_is_row rt
 simp (disch := first | decide | omega | assumption) only [stw, stc, Nat.reduceAdd, Nat.reduceSub, e3, e2, e1]
theorem table_ok (hP : IsPr p) (h0 : 1 ≤ w) (h1 : w ≤ 12) (hn : rows.length ≤ 24) (hf : Fine p w rows) (μ : Store) : fV_is_table [.val (tb p w rows)] μ = .ok (.val (.bl true)) μ := by
 have hc := compL_ofA (same := fun _ => True) (b := bName 0) (d := dCall (cal fV_is_row) [(dVar 0), (dVar 1), (dVar 2)]) (e := [none, some (.val (.int p)), some (.val (.int w))]) (μ := μ) rt (fun _ => .bl true) trivial rows fun q hq => by
  have := row_ok (hf q hq) (by lia) μ
  exact ⟨_, rfl, by simp (disch := first | decide | omega | assumption) only [stw, stc, Nat.reduceAdd, Nat.reduceSub, this]⟩
 have e1 : dUn fAll (dComp (iSeq (dVar 3)) [none, some 1, some 2] (bName 0) (dC (.bl true)) (dCall (cal fV_is_row) [(dVar 0), (dVar 1), (dVar 2)])) [some (.val (.tup [.int p, .int w, .tup (rows.map rt)])), some (.val (.int p)), some (.val (.int w)), some (.val (.tup (rows.map rt)))] μ = .ok (.val (.bl true)) μ := by
  have : dComp (iSeq (dVar 3)) [none, some 1, some 2] (bName 0) (dC (.bl true)) (dCall (cal fV_is_row) [(dVar 0), (dVar 1), (dVar 2)]) [some (.val (.tup [.int p, .int w, .tup (rows.map rt)])), some (.val (.int p)), some (.val (.int w)), some (.val (.tup (rows.map rt)))] μ = .ok (.val (.lst (rows.map fun _ => .bl true))) μ := by
   generalize dCall (cal fV_is_row) [(dVar 0), (dVar 1), (dVar 2)] = D at hc
   simp (disch := first | decide | omega | assumption) only [stw, stc, Nat.reduceAdd, Nat.reduceSub]
   rw [hc, R.calm_ok, R.bind_ok, if_pos (by rw [List.length_map]; unfold szL; lia)]
  rw [dUn_is, this, R.bind_ok, rd_val, ap1_some, fAll_map (fun _ => true)]
  simp
 have e2 := tup_ok [.int p, .int w, .tup (rows.map rt)] 3 rfl μ
 have e3 := prime_int hP μ
 have e4 := from_ok (a := 1) (b := 12) (n := (w : Int)) (by lia) (by lia) μ
 have z : decide (24 < (((rows.map rt).length : Nat) : Int)) = false := decide_eq_false (by rw [List.length_map]; lia)
 unfold fV_is_table b_is_table tb
 generalize dUn fAll (dComp (iSeq (dVar 3)) [none, some 1, some 2] (bName 0) (dC (.bl true)) (dCall (cal fV_is_row) [(dVar 0), (dVar 1), (dVar 2)])) = D at e1
 generalize rows.map rt = R at *
 simp (disch := first | decide | omega | assumption) only [stw, stc, Nat.reduceAdd, Nat.reduceSub, e2, e3, e4, dIs_is, isS_val, isT_tup, isK, z, e1]
theorem dIsG_at {f : Str → Option Bool} {d : D} {e : Slots} {μ μ1 : Store} {n : Str} {b : Bool} (h : d e μ = .ok (.val (.exc n none)) μ1) (hf : f n = some b) : dIsG f d e μ = .ok (.val (.bl b)) μ1 := by
 unfold dIsG
 rw [h]
 show (match f n with | some b => R.ok (SV.val (T.bl b)) μ1 | none => R.bad) = _
 rw [hf]
theorem try_nx {b : DS} {g : Str → DS} {e e' : Slots} {μ μ' : Store} (h : b e μ = .nx e' μ') : sTry b g e μ = .nx e' μ' := by unfold sTry; rw [h]
theorem try_err {b : DS} {g : Str → DS} {e e' : Slots} {μ μ' : Store} {n : Str} (h : b e μ = .err (.exc n none) e' μ') : sTry b g e μ = g n e' μ' := by unfold sTry; rw [h]
theorem calm_nx {d : DS} {e e' : Slots} {μ μ' : Store} (h : d e μ = .nx e' μ') : sCalm d e μ = .nx e' μ' := by unfold sCalm; rw [h]
theorem as_nx {i : Nat} {n : Str} {d : DS} {e e' : Slots} {μ μ' : Store} (h : d (e.set i (some (.val (.exc n none)))) μ = .nx e' μ') : sAs i n d e μ = .nx (e'.set i none) μ' := by unfold sAs; rw [calm_nx h]; rfl
theorem told_ok {t u : T} {c : Bool} (μ : Store) (h : fX_table_of [.val (.int p), .val t] μ = if c = true then .ok (.val u) μ else .err (.exc "TooMany" none) μ) : fV__law_told [.val (.int p), .val t] μ = .ok (.val (if c = true then u else .non)) μ := by
 have k1 : ∀ (x2 : Option SV) (f : Str → Option Bool) (x : Bool), f "TooMany" = some x → dIsG f (dVar 3) [some (.val (.int p)), some (.val t), x2, some (.val (.exc "TooMany" none))] μ = .ok (.val (.bl x)) μ := fun x2 f x hf => dIsG_at (by simp (disch := first | decide | omega | assumption) only [stw, stc, Nat.reduceAdd, Nat.reduceSub]) hf
 have e1 : sTry (sSet 2 (dCall fX_table_of [(dVar 0), (dVar 1)])) (fun n => if n = "TooMany" then (sAs 3 "TooMany" (sSet 2 (dIdx (dLst [(dC (.str "another")), (dC (.non))]) (dUn fInt (dAnd (dIsG (fun n => if n = "TooMany" then some true else none) (dVar 3)) (dIsG (fun n => if n = "TooMany" then some true else none) (dVar 3))))))) else sBad) [some (.val (.int p)), some (.val t), some (.val .non), none] μ = .nx [some (.val (.int p)), some (.val t), some (.val (if c = true then u else .non)), none] μ := by
  cases c with
  | true =>
   rw [if_pos rfl] at h ⊢
   exact try_nx (by simp (disch := first | decide | omega | assumption) only [stw, stc, Nat.reduceAdd, Nat.reduceSub, h])
  | false =>
   rw [if_neg Bool.false_ne_true] at h ⊢
   rw [try_err (n := "TooMany") (e' := [some (.val (.int p)), some (.val t), some (.val .non), none]) (μ' := μ) (by simp (disch := first | decide | omega | assumption) only [stw, stc, Nat.reduceAdd, Nat.reduceSub, h, toS_err]), if_pos rfl]
   have a1 := k1 (some (.val .non)) (fun n => if n = "TooMany" then some true else none) true rfl
   rw [as_nx (e' := [some (.val (.int p)), some (.val t), some (.val .non), some (.val (.exc "TooMany" none))]) (μ' := μ) (by
    generalize dIsG (fun n => if n = "TooMany" then some true else none) (dVar 3) = D1 at a1
    simp (disch := first | decide | omega | assumption) only [stw, stc, Nat.reduceAdd, Nat.reduceSub, a1])]
   rfl
 unfold fV__law_told b__law_told
 generalize sTry (sSet 2 (dCall fX_table_of [(dVar 0), (dVar 1)])) (fun n => if n = "TooMany" then (sAs 3 "TooMany" (sSet 2 (dIdx (dLst [(dC (.str "another")), (dC (.non))]) (dUn fInt (dAnd (dIsG (fun n => if n = "TooMany" then some true else none) (dVar 3)) (dIsG (fun n => if n = "TooMany" then some true else none) (dVar 3))))))) else sBad) = D at e1
 simp (disch := first | decide | omega | assumption) only [stw, stc, Nat.reduceAdd, Nat.reduceSub, e1]
end Fw.k22
namespace Fw.k22
open PySem Fw Fw.H Fw.E Fw.F Fw.U
theorem cell_ok (ns : List Int) (k : Int) (μ : Store) (h0 : 0 ≤ k) (h1 : k ≤ 1000) : ∃ c, fV__law_cell [.val (.lst (ns.map T.int)), .val (.int k)] μ = .ok (.val (.int c)) μ := H.cell_ok ns k μ h0 h1
theorem p_ok (c : Int) (μ : Store) : ∃ p, fV__law_p [.val (.int c)] μ = .ok (.val (.int p)) μ ∧ IsPr p := H.p_ok c μ
noncomputable abbrev S2 (a b : Nat) : Bool × T := (true, .lst [.int (a : Int), .int (b : Int)])
section
variable {M : Store} {ks a b : Nat}
theorem s2_0 (h : M[ks]? = some (S2 a b)) : idxS M (.cel ks) (.int 0) = some (.val (.int a)) := by rw [idxS_cel, rd_cel, h]; rfl
theorem s2_1 (h : M[ks]? = some (S2 a b)) : idxS M (.cel ks) (.int 1) = some (.val (.int b)) := by rw [idxS_cel, rd_cel, h]; rfl
theorem s2_s0 (h : M[ks]? = some (S2 a b)) : setAt (.cel ks) (.int 0) (.int ((a : Int) + 1)) M = some (M.set ks (S2 (a + 1) b)) := by
 rw [setAt_at (ts := [.int a, .int b]) h (by lia) (by simp)]; rfl
theorem s2_s1 (h : M[ks]? = some (S2 a b)) : setAt (.cel ks) (.int 1) (.int ((b : Int) + 1)) M = some (M.set ks (S2 a (b + 1))) := by
 rw [setAt_at (ts := [.int a, .int b]) h (by lia) (by simp)]; rfl
end
theorem or_ok {A B : D} {e : Slots} {μ : Store} {a b : Bool} (h1 : A e μ = .ok (.val (.bl a)) μ) (h2 : B e μ = .ok (.val (.bl b)) μ) : dOr A B e μ = .ok (.val (.bl (a || b))) μ := by
 cases a with
 | true => simp (disch := first | decide | omega | assumption) only [stw, stc, Nat.reduceAdd, Nat.reduceSub, h1]; rfl
 | false => simp (disch := first | decide | omega | assumption) only [stw, stc, Nat.reduceAdd, Nat.reduceSub, h1, h2]; rfl
theorem and_ok {A B : D} {e : Slots} {μ : Store} {a b : Bool} (h1 : A e μ = .ok (.val (.bl a)) μ) (h2 : B e μ = .ok (.val (.bl b)) μ) : dAnd A B e μ = .ok (.val (.bl (a && b))) μ := by
 cases a with
 | true => simp (disch := first | decide | omega | assumption) only [stw, stc, Nat.reduceAdd, Nat.reduceSub, h1, h2]; rfl
 | false => simp (disch := first | decide | omega | assumption) only [stw, stc, Nat.reduceAdd, Nat.reduceSub, h1]; rfl
noncomputable def cb (deep : Int) (b : Nat) (c : Int) : Bool := (deep == 4) || (decide (9 < (b : Int)) || ((decide (0 < deep) && decide (c % 5 < 3)) || ((deep == 0) && (c % 16 == 7))))
noncomputable def cndD : D := (dOr (dBin fEq (dVar 2) (dC (.int 4))) (dOr (dBin fGt (dIdx (dVar 1) (dC (.int 1))) (dC (.int 9))) (dOr (dAnd (dBin fGt (dVar 2) (dC (.int 0))) (dBin fLt (dBin fMod (dVar 3) (dC (.int 5))) (dC (.int 3)))) (dAnd (dBin fEq (dVar 2) (dC (.int 0))) (dBin fEq (dBin fMod (dVar 3) (dC (.int 16))) (dC (.int 7)))))))
theorem cnd_ok {M : Store} {ks a b : Nat} (h : M[ks]? = some (S2 a b)) (deep c : Int) (x0 x4 x5 x6 x7 : Option SV) : cndD [x0, some (.cel ks), some (.val (.int deep)), some (.val (.int c)), x4, x5, x6, x7] M = .ok (.val (.bl (cb deep b c))) M := by
 have i1 := s2_1 h
 unfold cndD cb
 exact or_ok (by simp (disch := first | decide | omega | assumption) only [stw, stc, Nat.reduceAdd, Nat.reduceSub]) (or_ok (by simp (disch := first | decide | omega | assumption) only [stw, stc, Nat.reduceAdd, Nat.reduceSub, i1]) (or_ok (and_ok (by simp (disch := first | decide | omega | assumption) only [stw, stc, Nat.reduceAdd, Nat.reduceSub]) (by simp (disch := first | decide | omega | assumption) only [stw, stc, Nat.reduceAdd, Nat.reduceSub])) (and_ok (by simp (disch := first | decide | omega | assumption) only [stw, stc, Nat.reduceAdd, Nat.reduceSub]) (by simp (disch := first | decide | omega | assumption) only [stw, stc, Nat.reduceAdd, Nat.reduceSub]))))
theorem cnt_pos : ∀ (d : Nat) (t : T), IsR d t → 1 ≤ cnt d t
 | 0, t, ⟨h, _, _, e⟩ => by rw [e, cnt_hnd]; exact Nat.le_refl _
 | d + 1, t, .inl ⟨h, _, _, e⟩ => by rw [e, cnt_hnd]; exact Nat.le_refl _
 | d + 1, t, .inr ⟨k, r, rs, e, h1, h2, h3, h4⟩ => by
  rw [e, cnt_som]
  exact Nat.le_trans (cnt_pos d r (h4 r List.mem_cons_self)) (cnt_mem List.mem_cons_self)
theorem len_cnt (d : Nat) : ∀ l : List T, (∀ x ∈ l, IsR d x) → l.length ≤ (l.map (cnt d)).sum
 | [], _ => Nat.le_refl _
 | x :: l, h => by
  have h1 := cnt_pos d x (h x List.mem_cons_self)
  have h2 := len_cnt d l fun y hy => h y (List.mem_cons_of_mem _ hy)
  rw [List.map_cons, List.sum_cons, List.length_cons]; lia
theorem sum_plc {d : Nat} : ∀ l : List T, (∀ x ∈ l, plc d x ≤ d * cnt d x) → (l.map (plc d)).sum ≤ d * (l.map (cnt d)).sum
 | [], _ => by simp
 | x :: l, h => by
  have h1 := h x List.mem_cons_self
  have h2 := sum_plc l fun y hy => h y (List.mem_cons_of_mem _ hy)
  rw [List.map_cons, List.sum_cons, List.map_cons, List.sum_cons, Nat.mul_add]; lia
theorem plc_le : ∀ (d : Nat) (t : T), IsR d t → plc d t ≤ d * cnt d t
 | 0, t, ⟨h, _, _, e⟩ => by rw [e, plc_hnd]; exact Nat.zero_le _
 | d + 1, t, .inl ⟨h, _, _, e⟩ => by rw [e, plc_hnd]; exact Nat.zero_le _
 | d + 1, t, .inr ⟨k, r, rs, e, h1, h2, h3, h4⟩ => by
  rw [e, plc_som, cnt_som]
  have a := sum_plc (r :: rs) fun x hx => plc_le d x (h4 x hx)
  have b := len_cnt d (r :: rs) h4
  rw [List.length_cons] at b
  rw [Nat.succ_mul]
  lia
theorem ok_hand (n : Nat) : okT n (.str "hand") = true := by unfold okT; decide +kernel
theorem ok_some (n : Nat) : okT n (.str "some") = true := by unfold okT; decide +kernel
theorem ok_rule : ∀ (d : Nat) (t : T) (n : Nat), IsR d t → 2 * d + 1 ≤ n → okT n t = true := by
 intro d
 induction d with
 | zero =>
  rintro t n ⟨h, _, _, rfl⟩ hn
  obtain ⟨m, rfl⟩ : ∃ m, n = m + 1 := ⟨n - 1, by omega⟩
  simp [ok_hand]
 | succ d ih =>
  rintro t n ht hn
  obtain ⟨m, rfl⟩ : ∃ m, n = m + 2 := ⟨n - 2, by omega⟩
  rcases ht with ⟨h, _, _, rfl⟩ | ⟨k, r, rs, rfl, _, _, _, h4⟩
  ·simp [ok_hand]
  ·have : okTs m (r :: rs) = true := (okTs_iff m (r :: rs)).mpr fun x hx => ih x m (h4 x hx) (by omega)
   rw [okT_tup, okTs_cons, okTs_cons, okTs_cons, okTs_nil, okT_tup, ok_some, okT_int, this]; rfl
theorem arith {d a a' b b' s : Nat} (hd : d ≤ 3) (h1 : a' ≤ a + 1 + (d + 1) * s) (h2 : b' = b + s) (h3 : b' ≤ 13) (h4 : a + (d + 2) * (14 - b) ≤ 900) : a' + (d + 1) * (14 - b') ≤ 900 ∧ a' ≤ 900 := by
 have : d = 0 ∨ d = 1 ∨ d = 2 ∨ d = 3 := by lia
 rcases this with rfl | rfl | rfl | rfl <;> lia
theorem arith2 {d a a' s : Nat} (hd : d ≤ 3) (h1 : a' ≤ a + 1 + (d + 1) * s) (hs : 1 ≤ s) : a' ≤ a + (d + 2) * s := by
 have : d = 0 ∨ d = 1 ∨ d = 2 ∨ d = 3 := by lia
 rcases this with rfl | rfl | rfl | rfl <;> lia
theorem hnd_num {c : Int} : ∃ h : Int, fMod (.int (c / 5)) (.int (if c / 50 % 2 = 0 then 10 else 4)) = some (.int h) ∧ 0 ≤ h ∧ h < 10 := by
 split
 ·exact ⟨c / 5 % 10, fMod_int _ _ (by lia), by lia, by lia⟩
 ·exact ⟨c / 5 % 4, fMod_int _ _ (by lia), by lia, by lia⟩
theorem at_ten (c : Int) : atI [T.int 10, .int 4] (c / 50 % 2) = some (.int (if c / 50 % 2 = 0 then 10 else 4)) := by
 have : c / 50 % 2 = 0 ∨ c / 50 % 2 = 1 := by lia
 rcases this with e | e <;> rw [e] <;> rfl
noncomputable def ruleB (F : FN) : DS := (sIf (dBin fLt (dIdx (dVar 1) (dC (.int 1))) (dC (.int 14))) (sAppend (dVar 6) (dCall (cal F) [(dVar 0), (dVar 1), (dBin fAdd (dVar 2) (dC (.int 1)))])) sNil)
noncomputable def Drawn (F : FN) (ns : List Int) (d : Nat) : Prop := ∀ (M : Store) (ks a b : Nat), M[ks]? = some (S2 a b) → b ≤ 13 → a + (d + 1) * (14 - b) ≤ 900 →
 ∃ (t : T) (a' : Nat), IsR d t ∧ b + cnt d t ≤ 14 ∧ a' ≤ a + (d + 1) * cnt d t ∧ F [.val (.lst (ns.map T.int)), .cel ks, .val (.int (4 - (d : Int)))] M = .ok (.val t) (M.set ks (S2 a' (b + cnt d t)))
theorem rule_hand (F : FN) (ns : List Int) (d : Nat) {M : Store} {ks a b : Nat} (h : M[ks]? = some (S2 a b)) (hb : b ≤ 13) (ha : a ≤ 900) {c : Int} (hcell : fV__law_cell [.val (.lst (ns.map T.int)), .val (.int (1 + (a : Int)))] M = .ok (.val (.int c)) M) (hc : cb (4 - (d : Int)) b c = true) :
  ∃ (t : T) (a' : Nat), IsR d t ∧ b + cnt d t ≤ 14 ∧ a' ≤ a + (d + 1) * cnt d t ∧ fnV 8 (b__law_rule F) [.val (.lst (ns.map T.int)), .cel ks, .val (.int (4 - (d : Int)))] M = .ok (.val t) (M.set ks (S2 a' (b + cnt d t))) := by
 have l1 : ks < M.length := (List.getElem?_eq_some_iff.mp h).1
 obtain ⟨hh, e1, e2, e3⟩ := hnd_num (c := c)
 refine ⟨hnd hh, a + 1, ?_, by rw [cnt_hnd]; lia, by rw [cnt_hnd]; lia, ?_⟩
 ·cases d with
  | zero => exact ⟨hh, e2, e3, rfl⟩
  | succ d => exact .inl ⟨hh, e2, e3, rfl⟩
 ·rw [cnt_hnd]
  have i0 := s2_0 h
  have s0 := s2_s0 h
  have h' : (M.set ks (S2 (a + 1) b))[ks]? = some (S2 (a + 1) b) := List.getElem?_set_self l1
  have hlen : (M.set ks (S2 (a + 1) b)).length = M.length := List.length_set
  have i1 := s2_1 h'
  have s1 := s2_s1 h'
  have hcd := cnd_ok h' (4 - (d : Int)) c (some (.val (.lst (ns.map T.int)))) none none none none
  rw [hc] at hcd
  rw [List.set_set] at s1
  have at1 := at_ten c
  rw [show b__law_rule F = (sSeq (sSet 3 (dCall (cal fV__law_cell) [(dVar 0), (dBin fAdd (dC (.int 1)) (dIdx (dVar 1) (dC (.int 0))))]))
   (sSeq (sSetItem 1 (dC (.int 0)) (dBin fAdd (dIdx (dVar 1) (dC (.int 0))) (dC (.int 1))))
   (sSeq (sIf cndD (sSeq (sSetItem 1 (dC (.int 1)) (dBin fAdd (dIdx (dVar 1) (dC (.int 1))) (dC (.int 1))))
   (sRet (dTup [(dC (.str "hand")), (dBin fMod (dBin fDiv (dVar 3) (dC (.int 5))) (dIdx (dLst [(dC (.int 10)), (dC (.int 4))]) (dBin fMod (dBin fDiv (dVar 3) (dC (.int 50))) (dC (.int 2)))))]))) sNil)
   (sSeq (sSet 4 (dBin fAdd (dC (.int 1)) (dBin fMod (dBin fDiv (dVar 3) (dC (.int 5))) (dIdx (dLst [(dC (.int 3)), (dC (.int 5))]) (dUn fInt (dBin fEq (dVar 2) (dC (.int 0))))))))
   (sSeq (sSet 5 (dBin fAdd (dC (.int 1)) (dBin fMod (dBin fDiv (dVar 3) (dC (.int 75))) (dVar 4))))
   (sSeq (sSet 6 (dCell (dLst [])))
   (sSeq (sFor (iRange1 (dVar 4)) (bName 7) (ruleB F))
   (sSeq (sIf (dBin fEq (dVar 6) (dLst [])) (sSeq (sSetItem 1 (dC (.int 1)) (dBin fAdd (dIdx (dVar 1) (dC (.int 1))) (dC (.int 1))))
   (sSet 6 (dCell (dLst [(dTup [(dC (.str "hand")), (dBin fMod (dBin fDiv (dVar 3) (dC (.int 5))) (dC (.int 10)))])])))) sNil)
   (sRet (dTup [(dC (.str "some")), (dBin fMin (dVar 5) (dLen (dVar 6))), (dUn fTuple (dVar 6))])))))))))) from rfl]
  generalize cndD = C at hcd
  generalize hM1 : M.set ks (S2 (a + 1) b) = M1 at *
  simp (disch := first | decide | omega | assumption) only [stw, stc, Nat.reduceAdd, Nat.reduceSub, i0, hcell, s0, hcd, i1, s1, at1, e1]
  rw [List.take_of_length_le (by rw [List.length_set]; exact Nat.le_refl _)]
theorem append_set (M : Store) (ks : Nat) (x y z : Bool × T) (h : ks < M.length) : (M.set ks x ++ [y]).set ks z = M.set ks z ++ [y] := by
 rw [List.set_append_left _ _ (by rw [List.length_set]; exact h), List.set_set]
theorem rule_loop {F : FN} {ns : List Int} {d : Nat} (hd : d ≤ 3) (hF : Drawn F ns d) {M : Store} {ks a b : Nat} (l1 : ks < M.length) (hb : b ≤ 9) (ha : a + (d + 2) * (14 - b) ≤ 900) (m : Nat) (hm : 1 ≤ m) (hm2 : m ≤ 5) (x3 x4 x5 : Option SV) :
  ∃ (ts : List T) (a' : Nat) (y7 : Option SV), ts ≠ [] ∧ ts.length ≤ m ∧ (∀ x ∈ ts, IsR d x) ∧ b + (ts.map (cnt d)).sum ≤ 14 ∧ a' ≤ a + 1 + (d + 1) * (ts.map (cnt d)).sum ∧
   forL (fun _ => True) (bName 7) (ruleB F) (intsT 0 m) [some (.val (.lst (ns.map T.int))), some (.cel ks), some (.val (.int (4 - ((d + 1 : Nat) : Int)))), x3, x4, x5, some (.cel M.length), none] (M.set ks (S2 (a + 1) b) ++ [(true, .lst [])]) =
    .nx [some (.val (.lst (ns.map T.int))), some (.cel ks), some (.val (.int (4 - ((d + 1 : Nat) : Int)))), x3, x4, x5, some (.cel M.length), y7] (M.set ks (S2 a' (b + (ts.map (cnt d)).sum)) ++ [(true, .lst ts)]) := by
 have n0 : ∀ x ∈ ([] : List T), IsR d x := fun x hx => absurd hx (by simp)
 obtain ⟨e', μ', hf, ts, a', y7, rfl, rfl, h1, h2, h3, h4, h5⟩ := forL_nx (same := fun _ => True) (b := bName 7) (body := ruleB F) (ts := intsT 0 m)
  (I := fun i e μ1 => ∃ (ts : List T) (a' : Nat) (y7 : Option SV), e = [some (.val (.lst (ns.map T.int))), some (.cel ks), some (.val (.int (4 - ((d + 1 : Nat) : Int)))), x3, x4, x5, some (.cel M.length), y7] ∧ μ1 = M.set ks (S2 a' (b + (ts.map (cnt d)).sum)) ++ [(true, .lst ts)] ∧ (1 ≤ i → ts ≠ []) ∧ ts.length ≤ i ∧ (∀ x ∈ ts, IsR d x) ∧ b + (ts.map (cnt d)).sum ≤ 14 ∧ a' ≤ a + 1 + (d + 1) * (ts.map (cnt d)).sum)
  (fun _ _ _ _ => trivial) (fun i z e μ1 hz hI => by
   obtain ⟨ts, a', y7, rfl, rfl, g1, g2, g3, g4, g5⟩ := hI
   obtain ⟨k, rfl, hi, hk⟩ := intsT_k hz
   have lN : (M.set ks (S2 a' (b + (ts.map (cnt d)).sum))).length = M.length := List.length_set
   have hN : (M.set ks (S2 a' (b + (ts.map (cnt d)).sum)) ++ [(true, .lst ts)])[ks]? = some (S2 a' (b + (ts.map (cnt d)).sum)) := by
    rw [List.getElem?_append_left (by rw [lN]; exact l1), List.getElem?_set_self l1]
   have i1 := s2_1 hN
   by_cases c : b + (ts.map (cnt d)).sum ≤ 13
   ·have c' : decide (((b + (ts.map (cnt d)).sum : Nat) : Int) < 14) = true := decide_eq_true (by lia)
    obtain ⟨ar1, _⟩ := arith hd g5 rfl c ha
    obtain ⟨t, a'', r1, r2, r3, r4⟩ := hF _ ks a' (b + (ts.map (cnt d)).sum) hN c ar1
    rw [append_set M ks _ _ _ l1] at r4
    have hs : ((ts ++ [t]).map (cnt d)).sum = (ts.map (cnt d)).sum + cnt d t := by rw [List.map_append, List.sum_append]; simp
    have hls : lsts (.cel M.length) (M.set ks (S2 a' (b + (ts.map (cnt d)).sum)) ++ [(true, .lst ts)]) = some () := by
     conv => lhs; rw [← lN]
     exact lsts_st0 _ _ _ _
    have hap : appendAt (.cel M.length) t (M.set ks (S2 a'' (b + (ts.map (cnt d)).sum + cnt d t)) ++ [(true, .lst ts)]) = some (M.set ks (S2 a'' (b + (ts.map (cnt d)).sum + cnt d t)) ++ [(true, .lst (ts ++ [t]))]) := by
     have lN2 : (M.set ks (S2 a'' (b + (ts.map (cnt d)).sum + cnt d t))).length = M.length := List.length_set
     conv => lhs; rw [← lN2]
     exact append_st0 _ [] ts t (by unfold szL; lia)
    have e4 : (4 - ((d + 1 : Nat) : Int)) + 1 = 4 - (d : Int) := by lia
    rw [Nat.add_assoc] at r4 hap
    refine ⟨_, _, M.set ks (S2 a'' (b + ((ts.map (cnt d)).sum + cnt d t))) ++ [(true, .lst (ts ++ [t]))], rfl, ?_, ts ++ [t], a'', some (.val (.int k)), rfl, by rw [hs], fun _ => by simp, by rw [List.length_append]; show ts.length + 1 ≤ i + 1; lia, fun x hx => ?_, by rw [hs]; lia, by rw [hs, Nat.mul_add]; lia⟩
    ·unfold ruleB
     generalize hN1 : M.set ks (S2 a' (b + (ts.map (cnt d)).sum)) ++ [(true, T.lst ts)] = N1 at *
     simp (disch := first | decide | omega | assumption) only [stw, stc, Nat.reduceAdd, Nat.reduceSub, i1, c', hls, e4, r4, hap]
    ·rcases List.mem_append.mp hx with hx | hx
     ·exact g3 x hx
     ·rw [List.mem_singleton.mp hx]; exact r1
   ·have c' : decide (((b + (ts.map (cnt d)).sum : Nat) : Int) < 14) = false := decide_eq_false (by lia)
    refine ⟨_, _, _, rfl, ?_, ts, a', some (.val (.int k)), rfl, rfl, fun _ z => ?_, by lia, g3, g4, g5⟩
    ·unfold ruleB
     simp (disch := first | decide | omega | assumption) only [stw, stc, Nat.reduceAdd, Nat.reduceSub, i1, c']
    ·subst z
     simp at c
     lia)
  (e := [some (.val (.lst (ns.map T.int))), some (.cel ks), some (.val (.int (4 - ((d + 1 : Nat) : Int)))), x3, x4, x5, some (.cel M.length), none]) (μ := M.set ks (S2 (a + 1) b) ++ [(true, .lst [])]) ⟨[], a + 1, none, rfl, rfl, fun z => absurd z (by lia), Nat.le_refl _, n0, show b + 0 ≤ 14 by lia, show a + 1 ≤ a + 1 + (d + 1) * 0 by lia⟩
 rw [intsT_len] at h1 h2
 exact ⟨ts, a', y7, h1 hm, h2, h3, h4, h5, hf⟩
theorem at_three (x : Bool) : atI [T.int 3, .int 5] (if x = true then 1 else 0) = some (.int (if x = true then 5 else 3)) := by
 cases x <;> rfl
theorem rule_some (F : FN) (ns : List Int) (d : Nat) (hd : d ≤ 3) (hF : Drawn F ns d) {M : Store} {ks a b : Nat} (h : M[ks]? = some (S2 a b)) (hb : b ≤ 13) (ha : a + (d + 2) * (14 - b) ≤ 900) (ha2 : a ≤ 900) {c : Int} (hcell : fV__law_cell [.val (.lst (ns.map T.int)), .val (.int (1 + (a : Int)))] M = .ok (.val (.int c)) M) (hc : cb (4 - ((d + 1 : Nat) : Int)) b c = false) :
  ∃ (t : T) (a' : Nat), IsR (d + 1) t ∧ b + cnt (d + 1) t ≤ 14 ∧ a' ≤ a + (d + 2) * cnt (d + 1) t ∧ fnV 8 (b__law_rule F) [.val (.lst (ns.map T.int)), .cel ks, .val (.int (4 - ((d + 1 : Nat) : Int)))] M = .ok (.val t) (M.set ks (S2 a' (b + cnt (d + 1) t))) := by
 have l1 : ks < M.length := (List.getElem?_eq_some_iff.mp h).1
 have hb9 : b ≤ 9 := by
  unfold cb at hc
  simp only [Bool.or_eq_false_iff, decide_eq_false_iff_not] at hc
  lia
 obtain ⟨z, hz⟩ : ∃ z : Bool, ((4 - ((d + 1 : Nat) : Int)) == 0) = z := ⟨_, rfl⟩
 obtain ⟨m, m1, m2, hm⟩ : ∃ m : Nat, 1 ≤ m ∧ m ≤ 5 ∧ ∃ q : Int, fMod (.int (c / 5)) (.int (if z = true then 5 else 3)) = some (.int q) ∧ 1 + q = (m : Int) := by
  cases z with
  | true =>
   refine ⟨(1 + c / 5 % 5).toNat, by lia, by lia, c / 5 % 5, fMod_int _ _ (by lia), by lia⟩
  | false =>
   refine ⟨(1 + c / 5 % 3).toNat, by lia, by lia, c / 5 % 3, fMod_int _ _ (by lia), by lia⟩
 obtain ⟨q, hq1, hq2⟩ := hm
 obtain ⟨k, k1, hk⟩ : ∃ k : Int, 1 ≤ k ∧ ∃ r : Int, fMod (.int (c / 75)) (.int (m : Int)) = some (.int r) ∧ 1 + r = k :=
  ⟨1 + c / 75 % m, by have := Int.emod_nonneg (c / 75) (show (m : Int) ≠ 0 by lia); lia, c / 75 % m, fMod_int _ _ (by lia), rfl⟩
 obtain ⟨r, hr1, hr2⟩ := hk
 obtain ⟨ts, a', y7, t1, t2, t3, t4, t5, hf⟩ := rule_loop hd hF l1 hb9 ha m m1 m2 (some (.val (.int c))) (some (.val (.int m))) (some (.val (.int k)))
 obtain ⟨x, xs, rfl⟩ : ∃ x xs, ts = x :: xs := by
  cases ts with
  | nil => exact absurd rfl t1
  | cons x xs => exact ⟨x, xs, rfl⟩
 obtain ⟨mn, hmn, n1, n2⟩ : ∃ mn : Int, (if (((x :: xs).length : Nat) : Int) < k then (((x :: xs).length : Nat) : Int) else k) = mn ∧ 1 ≤ mn ∧ mn ≤ xs.length + 1 := by
  refine ⟨_, rfl, ?_, ?_⟩
  ·split
   ·rw [List.length_cons]; lia
   ·exact k1
  ·rw [List.length_cons]
   split
   ·lia
   ·lia
 have hcs : cnt (d + 1) (som mn (x :: xs)) = ((x :: xs).map (cnt d)).sum := cnt_som d mn (x :: xs)
 have hsum : 1 ≤ ((x :: xs).map (cnt d)).sum := Nat.le_trans (cnt_pos d x (t3 x List.mem_cons_self)) (cnt_mem List.mem_cons_self)
 refine ⟨som mn (x :: xs), a', .inr ⟨mn, x, xs, rfl, n1, n2, by rw [List.length_cons] at t2; lia, t3⟩, by rw [hcs]; exact t4, by rw [hcs]; exact arith2 hd t5 hsum, ?_⟩
 rw [hcs]
 have i0 := s2_0 h
 have s0 := s2_s0 h
 have h' : (M.set ks (S2 (a + 1) b))[ks]? = some (S2 (a + 1) b) := List.getElem?_set_self l1
 have hlen : (M.set ks (S2 (a + 1) b)).length = M.length := List.length_set
 have hcd := cnd_ok h' (4 - ((d + 1 : Nat) : Int)) c (some (.val (.lst (ns.map T.int)))) none none none none
 rw [hc] at hcd
 have a3 := at_three z
 have rn : rngOk (m : Int) = true := rngOk_of (by lia) (by lia)
 have lN : (M.set ks (S2 a' (b + ((x :: xs).map (cnt d)).sum))).length = M.length := List.length_set
 have gN : (M.set ks (S2 a' (b + ((x :: xs).map (cnt d)).sum)) ++ [(true, T.lst (x :: xs))])[M.length]? = some (true, .lst (x :: xs)) := by
  conv => lhs; rw [← lN]
  rw [st_get0]
 have rdN : rd (M.set ks (S2 a' (b + ((x :: xs).map (cnt d)).sum)) ++ [(true, .lst (x :: xs))]) (.cel M.length) = some (.lst (x :: xs)) := by
  conv => lhs; rw [← lN]
  rw [rd_cel, st_get0]; rfl
 have feq : fEq (.lst (x :: xs)) (.lst []) = some (.bl false) := by
  have o1 : okT 100 (.lst (x :: xs)) = true := by
   rw [okT_lst]
   exact (okTs_iff 99 _).mpr fun y hy => ok_rule d y 99 (t3 y hy) (by lia)
  have o2 : okT 100 (.lst []) = true := by rw [okT_lst, okTs_nil]
  rw [fEq_ok o1 o2]; unfold eqT; rfl
 have lnS : lenS (M.set ks (S2 a' (b + ((x :: xs).map (cnt d)).sum)) ++ [(true, .lst (x :: xs))]) (.cel M.length) = some (.int (((x :: xs).length : Nat) : Int)) := by
  rw [lenS_cel, rdN]; rfl
 have hf : forL (fun _ => True) (bName 7) (ruleB F) (intsT 0 (m : Int).toNat) [some (.val (.lst (ns.map T.int))), some (.cel ks), some (.val (.int (4 - ((d + 1 : Nat) : Int)))), some (.val (.int c)), some (.val (.int m)), some (.val (.int k)), some (.cel M.length), none] (M.set ks (S2 (a + 1) b) ++ [(true, .lst [])]) = .nx [some (.val (.lst (ns.map T.int))), some (.cel ks), some (.val (.int (4 - ((d + 1 : Nat) : Int)))), some (.val (.int c)), some (.val (.int m)), some (.val (.int k)), some (.cel M.length), y7] (M.set ks (S2 a' (b + ((x :: xs).map (cnt d)).sum)) ++ [(true, .lst (x :: xs))]) := by
  rw [Int.toNat_natCast]; exact hf
 have htake : (M.set ks (S2 a' (b + ((x :: xs).map (cnt d)).sum)) ++ [(true, T.lst (x :: xs))]).take M.length = M.set ks (S2 a' (b + ((x :: xs).map (cnt d)).sum)) := by
  conv => lhs; rw [← lN]
  exact List.take_left
 rw [show b__law_rule F = (sSeq (sSet 3 (dCall (cal fV__law_cell) [(dVar 0), (dBin fAdd (dC (.int 1)) (dIdx (dVar 1) (dC (.int 0))))]))
   (sSeq (sSetItem 1 (dC (.int 0)) (dBin fAdd (dIdx (dVar 1) (dC (.int 0))) (dC (.int 1))))
   (sSeq (sIf cndD (sSeq (sSetItem 1 (dC (.int 1)) (dBin fAdd (dIdx (dVar 1) (dC (.int 1))) (dC (.int 1))))
   (sRet (dTup [(dC (.str "hand")), (dBin fMod (dBin fDiv (dVar 3) (dC (.int 5))) (dIdx (dLst [(dC (.int 10)), (dC (.int 4))]) (dBin fMod (dBin fDiv (dVar 3) (dC (.int 50))) (dC (.int 2)))))]))) sNil)
   (sSeq (sSet 4 (dBin fAdd (dC (.int 1)) (dBin fMod (dBin fDiv (dVar 3) (dC (.int 5))) (dIdx (dLst [(dC (.int 3)), (dC (.int 5))]) (dUn fInt (dBin fEq (dVar 2) (dC (.int 0))))))))
   (sSeq (sSet 5 (dBin fAdd (dC (.int 1)) (dBin fMod (dBin fDiv (dVar 3) (dC (.int 75))) (dVar 4))))
   (sSeq (sSet 6 (dCell (dLst [])))
   (sSeq (sFor (iRange1 (dVar 4)) (bName 7) (ruleB F))
   (sSeq (sIf (dBin fEq (dVar 6) (dLst [])) (sSeq (sSetItem 1 (dC (.int 1)) (dBin fAdd (dIdx (dVar 1) (dC (.int 1))) (dC (.int 1))))
   (sSet 6 (dCell (dLst [(dTup [(dC (.str "hand")), (dBin fMod (dBin fDiv (dVar 3) (dC (.int 5))) (dC (.int 10)))])])))) sNil)
   (sRet (dTup [(dC (.str "some")), (dBin fMin (dVar 5) (dLen (dVar 6))), (dUn fTuple (dVar 6))])))))))))) from rfl]
 generalize cndD = C at hcd
 generalize (4 - ((d + 1 : Nat) : Int)) = dp at *
 generalize hN2 : M.set ks (S2 a' (b + ((x :: xs).map (cnt d)).sum)) ++ [(true, T.lst (x :: xs))] = N2 at *
 generalize hM1 : M.set ks (S2 (a + 1) b) = M1 at *
 generalize hM2 : M.set ks (S2 a' (b + ((x :: xs).map (cnt d)).sum)) = M2 at *
 generalize hXS : x :: xs = XS at *
 simp (disch := first | decide | omega | assumption) only [stw, stc, Nat.reduceAdd, Nat.reduceSub, i0, hcell, s0, hcd, hz, a3, hq1, hq2, hr1, hr2, hlen, rn, hf, gN, Option.map_some, feq, fMin_int, lnS, hmn, htake]
theorem rule_ok (ns : List Int) : ∀ (d n : Nat), d ≤ n → d ≤ 4 → Drawn (fV__law_rule (n + 1)) ns d := by
 intro d
 induction d with
 | zero =>
  intro n hn h4 M ks a b h hb ha
  obtain ⟨c, hc⟩ := cell_ok ns (1 + (a : Int)) M (by lia) (by lia)
  exact rule_hand (fV__law_rule n) ns 0 h hb (by lia) hc (by unfold cb; rfl)
 | succ d ih =>
  intro n hn h4 M ks a b h hb ha
  obtain ⟨m, rfl⟩ : ∃ m, n = m + 1 := ⟨n - 1, by lia⟩
  have ha9 : a ≤ 900 := by
   have : d = 0 ∨ d = 1 ∨ d = 2 ∨ d = 3 := by lia
   rcases this with rfl | rfl | rfl | rfl <;> lia
  obtain ⟨c, hc⟩ := cell_ok ns (1 + (a : Int)) M (by lia) (by lia)
  cases z : cb (4 - ((d + 1 : Nat) : Int)) b c with
  | true => exact rule_hand (fV__law_rule (m + 1)) ns (d + 1) h hb ha9 hc z
  | false => exact rule_some (fV__law_rule (m + 1)) ns d (by lia) (ih m (by lia) (by lia)) h hb ha ha9 hc z
end Fw.k22
namespace Fw.k22
open PySem Fw Fw.H Fw.E Fw.F Fw.U
theorem tb_okT {p : Int} {w : Nat} {rows : Rows} : okT 100 (tb p w rows) = true := by
 unfold tb
 rw [okT_tup]
 have : okT 99 (.tup (rows.map rt)) = true := by
  rw [okT_tup]
  refine (okTs_iff 98 _).mpr fun x hx => ?_
  obtain ⟨q, _, rfl⟩ := List.mem_map.mp hx
  unfold rt tu
  rw [okT_tup]
  simp
 simp [this]
theorem another_ok : okT 100 (.str "another") = true := by unfold okT; decide +kernel
theorem holds : ∀ ns : List Int, ns.length ≤ 63 → ∃ μ', fV_law [.val (.lst (ns.map T.int))] [] = .ok (.val (.bl true)) μ' := by
 intro ns _
 obtain ⟨c0, hc0⟩ := cell_ok ns 0 [] (by lia) (by lia)
 obtain ⟨p, hp, hP⟩ := p_ok c0 []
 have hb := hP.pos
 obtain ⟨t, a', ht, hc, _, e2⟩ := rule_ok ns 4 7 (by lia) (by lia) [S2 0 0] 0 0 0 rfl (by lia) (by lia)
 have hcnt : cnt 4 t ≤ 14 := by lia
 have hplc := plc_le 4 t ht
 obtain ⟨rows, lr, hD⟩ := due_rows (p := p) (by lia) (by lia) ht (by lia) (by lia)
 have hfine := hD.fine
 have hlen := hD.len
 obtain ⟨μ2, hμ2⟩ : ∃ μ2, ([S2 0 0] : Store).set 0 (S2 a' (0 + cnt 4 t)) = μ2 := ⟨_, rfl⟩
 rw [hμ2] at e2
 have e2 : fV__law_rule 8 [.val (.lst (ns.map T.int)), .cel 0, .val (.int 0)] [(true, .lst [.int 0, .int 0])] = .ok (.val t) μ2 := e2
 have e3 := due_ok (by lia) (by lia) hD μ2
 have e4 := told_ok μ2 (tableX_ok (p := p) (by lia) (by lia) ht (by lia) hD μ2)
 unfold dueT at e3
 have h0 : ∀ x, law_s0 [some (.val (.lst (ns.map T.int))), x, none, none, none] [] = .nx [some (.val (.lst (ns.map T.int))), some (.val (.int p)), none, none, none] [] := fun x => by
  unfold law_s0
  simp (disch := first | decide | omega | assumption) only [stw, stc, Nat.reduceAdd, Nat.reduceSub, hc0, hp]
 have h1 : law_s1 [some (.val (.lst (ns.map T.int))), some (.val (.int p)), none, none, none] [] = .nx [some (.val (.lst (ns.map T.int))), some (.val (.int p)), some (.val t), none, none] μ2 := by
  unfold law_s1
  simp (disch := first | decide | omega | assumption) only [stw, stc, Nat.reduceAdd, Nat.reduceSub, e2]
 have body : ∃ μ', ((law_t2 [some (.val (.lst (ns.map T.int))), some (.val (.int p)), some (.val t), none, none] μ2).endV 0) = .ok (.val (.bl true)) μ' := by
  refine ⟨μ2.take 0, ?_⟩
  rw [law_t2_is]
  cases hg : good p t with
  | true =>
   rw [hg, if_pos rfl] at e3 e4
   have hq : plc 4 t ≤ 11 := by
    unfold good at hg
    rw [Bool.and_eq_true, decide_eq_true_eq] at hg
    exact hg.1
   have e5 := table_ok (p := p) (w := 1 + plc 4 t) (rows := rows) hP (by lia) (by lia) (by lia) hfine μ2
   have n1 : fEq (tb p (1 + plc 4 t : Nat) rows) (.str "another") = some (.bl false) := by
    rw [fEq_ok tb_okT another_ok]; unfold tb eqT; rfl
   have n2 : fEq (tb p (1 + plc 4 t : Nat) rows) (tb p (1 + plc 4 t : Nat) rows) = some (.bl true) := by
    rw [fEq_ok tb_okT tb_okT, eqT_refl 100 _ tb_okT]
   have n3 : isNon (tb p (1 + plc 4 t : Nat) rows) = some (.bl false) := rfl
   have n4 : isBl true (.bl true) = some (.bl true) := rfl
   generalize tb p (1 + plc 4 t : Nat) rows = W at *
   unfold law_s2
   rw [show (sSet 3 (dCall (cal fV__law_due) [(dVar 1), (dVar 2)])) [some (.val (.lst (ns.map T.int))), some (.val (.int p)), some (.val t), none, none] μ2 = .nx [some (.val (.lst (ns.map T.int))), some (.val (.int p)), some (.val t), some (.val W), none] μ2 by simp (disch := first | decide | omega | assumption) only [stw, stc, Nat.reduceAdd, Nat.reduceSub, e3], RS.seq_nx, law_t3_is]
   unfold law_s3
   rw [show (sSet 4 (dCall (cal fV__law_told) [(dVar 1), (dVar 2)])) [some (.val (.lst (ns.map T.int))), some (.val (.int p)), some (.val t), some (.val W), none] μ2 = .nx [some (.val (.lst (ns.map T.int))), some (.val (.int p)), some (.val t), some (.val W), some (.val W)] μ2 by simp (disch := first | decide | omega | assumption) only [stw, stc, Nat.reduceAdd, Nat.reduceSub, e4], RS.seq_nx, law_t4_is]
   unfold law_s4
   rw [show (sIf (dOr (dUn isNon (dVar 3)) (dOr (dUn isNon (dVar 4)) (dBin fEq (dVar 4) (dC (.str "another"))))) (sRet (dAnd (dUn isNon (dVar 3)) (dUn isNon (dVar 4)))) sNil) [some (.val (.lst (ns.map T.int))), some (.val (.int p)), some (.val t), some (.val W), some (.val W)] μ2 = .nx [some (.val (.lst (ns.map T.int))), some (.val (.int p)), some (.val t), some (.val W), some (.val W)] μ2 by simp (disch := first | decide | omega | assumption) only [stw, stc, Nat.reduceAdd, Nat.reduceSub, n3, n1], RS.seq_nx, law_t5_is]
   unfold law_s5
   simp (disch := first | decide | omega | assumption) only [stw, stc, Nat.reduceAdd, Nat.reduceSub, n2, e5, n4]
  | false =>
   rw [hg, if_neg Bool.false_ne_true] at e3 e4
   have n3 : isNon .non = some (.bl true) := rfl
   unfold law_s2
   rw [show (sSet 3 (dCall (cal fV__law_due) [(dVar 1), (dVar 2)])) [some (.val (.lst (ns.map T.int))), some (.val (.int p)), some (.val t), none, none] μ2 = .nx [some (.val (.lst (ns.map T.int))), some (.val (.int p)), some (.val t), some (.val .non), none] μ2 by simp (disch := first | decide | omega | assumption) only [stw, stc, Nat.reduceAdd, Nat.reduceSub, e3], RS.seq_nx, law_t3_is]
   unfold law_s3
   rw [show (sSet 4 (dCall (cal fV__law_told) [(dVar 1), (dVar 2)])) [some (.val (.lst (ns.map T.int))), some (.val (.int p)), some (.val t), some (.val .non), none] μ2 = .nx [some (.val (.lst (ns.map T.int))), some (.val (.int p)), some (.val t), some (.val .non), some (.val .non)] μ2 by simp (disch := first | decide | omega | assumption) only [stw, stc, Nat.reduceAdd, Nat.reduceSub, e4], RS.seq_nx, law_t4_is]
   unfold law_s4
   rw [show (sIf (dOr (dUn isNon (dVar 3)) (dOr (dUn isNon (dVar 4)) (dBin fEq (dVar 4) (dC (.str "another"))))) (sRet (dAnd (dUn isNon (dVar 3)) (dUn isNon (dVar 4)))) sNil) [some (.val (.lst (ns.map T.int))), some (.val (.int p)), some (.val t), some (.val .non), some (.val .non)] μ2 = .rt (.val (.bl true)) μ2 by simp (disch := first | decide | omega | assumption) only [stw, stc, Nat.reduceAdd, Nat.reduceSub, n3], RS.seq_rt]
   simp (disch := first | decide | omega | assumption) only [stw, stc, Nat.reduceAdd, Nat.reduceSub]
 obtain ⟨μ', hbody⟩ := body
 refine ⟨μ', ?_⟩
 unfold fV_law
 rw [fnV_is, law_is]
 show RS.endV 0 (law_t0 [some (.val (.lst (ns.map T.int))), none, none, none, none] []) = _
 rw [law_t0_is, h0, RS.seq_nx, law_t1_is, h1, RS.seq_nx]
 exact hbody
end Fw.k22
open PySem PySem.W PyProof.Rows
set_option maxRecDepth 100000 in
set_option maxHeartbeats 0 in
theorem PySem.Challenge.cw_fewopen_k22_tables_made_holds : PySem.Challenge.rw_fewopen_k22_tables_made.Holds := by
 w_on; o_law; k_head; (case hw => w_witness2)
 k_fill
 refine Fw.k22.walk (l := PySem.Challenge.rw_fewopen_k22_tables_made) rfl rfl Fw.k22.holds (fun w h Y => PySem.W.kIn_of Y) ?F
 case F =>
  intro w mg fa h KX G hmg
  refine' Fw.k22.all_mk KX G hmg ?a0 ?l0 ?c0 ?k0 ?a1 ?l1 ?c1 ?k1 ?a2 ?l2 ?c2 ?k2 ?a3 ?l3 ?c3 ?k3 ?a4 ?l4 ?c4 ?k4 ?a5 ?l5 ?c5 ?k5 ?a6 ?l6 ?c6 ?k6 ?a7 ?l7 ?c7 ?k7 ?a8 ?l8 ?c8 ?k8 ?a9 ?l9 ?c9 ?k9 ?a10 ?l10 ?c10 ?k10 ?a11 ?l11 ?c11 ?k11 ?a12 ?l12 ?c12 ?k12 ?a13 ?l13 ?c13 ?k13 ?a14 ?l14 ?c14 ?k14 ?a15 ?l15 ?c15 ?k15 ?a16 ?l16 ?c16 ?k16 ?a17 ?l17 ?c17 ?k17 ?a18 ?l18 ?c18 ?k18 ?a19 ?l19 ?c19 ?k19 ?a20 ?l20 ?c20 ?k20 ?z0 ?z1 ?z2 ?z3 ?z4 ?z5 ?z6 ?z7 ?z8 ?z9 ?z10 ?z11 ?z12 ?z13 ?z14 ?y0 ?y1 ?y2 ?y3 ?x0 ?x1 ?x2 ?x3 ?x4 ?x5 ?x6 ?x7 ?x8 ?x9 ?x10 ?x11 ?x12 ?x13 ?x14 ?x15 ?x16 ?x17 ?x18 ?x19 ?x20 ?x21 ?x22 ?x23 ?x24 ?x25 ?x26 ?x27 ?x28 ?x29 ?x30 ?x31 ?x32 ?x33 ?x34 ?x35 ?x36 ?x37 ?x38 ?x39 ?x40
  (case a0 => k_is)
  (case l0 => k_is)
  (case c0 => k_is)
  (case k0 => k_is)
  (case a1 => k_is)
  (case l1 => k_is)
  (case c1 => k_is)
  (case k1 => k_is)
  (case a2 => k_is)
  (case l2 => k_is)
  (case c2 => k_is)
  (case k2 => k_is)
  (case a3 => k_is)
  (case l3 => k_is)
  (case c3 => k_is)
  (case k3 => k_is)
  (case a4 => k_is)
  (case l4 => k_is)
  (case c4 => k_is)
  (case k4 => k_is)
  (case a5 => k_is)
  (case l5 => k_is)
  (case c5 => k_is)
  (case k5 => k_is)
  (case a6 => k_is)
  (case l6 => k_is)
  (case c6 => k_is)
  (case k6 => k_is)
  (case a7 => k_is)
  (case l7 => k_is)
  (case c7 => k_is)
  (case k7 => k_is)
  (case a8 => k_is)
  (case l8 => k_is)
  (case c8 => k_is)
  (case k8 => k_is)
  (case a9 => k_is)
  (case l9 => k_is)
  (case c9 => k_is)
  (case k9 => k_is)
  (case a10 => k_is)
  (case l10 => k_is)
  (case c10 => k_is)
  (case k10 => k_is)
  (case a11 => k_is)
  (case l11 => k_is)
  (case c11 => k_is)
  (case k11 => k_is)
  (case a12 => k_is)
  (case l12 => k_is)
  (case c12 => k_is)
  (case k12 => k_is)
  (case a13 => k_is)
  (case l13 => k_is)
  (case c13 => k_is)
  (case k13 => k_is)
  (case a14 => k_is)
  (case l14 => k_is)
  (case c14 => k_is)
  (case k14 => k_is)
  (case a15 => k_is)
  (case l15 => k_is)
  (case c15 => k_is)
  (case k15 => k_is)
  (case a16 => k_is)
  (case l16 => k_is)
  (case c16 => k_is)
  (case k16 => k_is)
  (case a17 => k_is)
  (case l17 => k_is)
  (case c17 => k_is)
  (case k17 => k_is)
  (case a18 => k_is)
  (case l18 => k_is)
  (case c18 => k_is)
  (case k18 => k_is)
  (case a19 => k_is)
  (case l19 => k_is)
  (case c19 => k_is)
  (case k19 => k_is)
  (case a20 => k_is)
  (case l20 => k_is)
  (case c20 => k_is)
  (case k20 => k_is)
  (case z0 => k_is)
  (case z1 => k_is)
  (case z2 => k_is)
  (case z3 => k_is)
  (case z4 => k_is)
  (case z5 => k_is)
  (case z6 => k_is)
  (case z7 => k_is)
  (case z8 => k_is)
  (case z9 => k_is)
  (case z10 => k_is)
  (case z11 => k_is)
  (case z12 => k_is)
  (case z13 => k_is)
  (case z14 => k_is)
  (case y0 => k_is)
  (case y1 => k_is)
  (case y2 => k_is)
  (case y3 => k_is)
  (case x0 => k_is)
  (case x1 => k_is)
  (case x2 => k_is)
  (case x3 => k_exc)
  (case x4 => k_is)
  (case x5 => k_is)
  (case x6 => k_is)
  (case x7 => k_is)
  (case x8 => k_is)
  (case x9 => k_is)
  (case x10 => k_is)
  (case x11 => k_is)
  (case x12 => k_is)
  (case x13 => k_is)
  (case x14 => k_is)
  (case x15 => k_is)
  (case x16 => k_is)
  (case x17 => k_is)
  (case x18 => k_is)
  (case x19 => k_is)
  (case x20 => k_is)
  (case x21 => k_is)
  (case x22 => k_is)
  (case x23 => k_is)
  (case x24 => k_is)
  (case x25 => k_is)
  (case x26 => k_is)
  (case x27 => k_is)
  (case x28 => k_is)
  (case x29 => k_is)
  (case x30 => k_is)
  (case x31 => k_is)
  (case x32 => k_is)
  (case x33 => k_is)
  (case x34 => k_is)
  (case x35 => k_is)
  (case x36 => k_is)
  (case x37 => k_is)
  (case x38 => k_is)
  (case x39 => kit_is)
  (case x40 => kit_is)
