import PyProof.Rows.All
import Wide.All
import OpenK.AllK
import Wide.FinOn
import Lean
import PyProof.EqAt
import PyProof.EqKinds
import PyProof.TupleCall
import PyProof.NeData
import PyProof.P3Eq
import PyProof.ConsumeWalk
import PyProof.ZipIter
import PyProof.DictItemsLoops
import KE.KDictList
import KE.KPairComp
import PyProof.Draws
import PyProof.EnumMake
import PyProof.EnumFor
import PyProof.ListRange
import PyProof.ListMulAny
import KE.KRevIter
import PyProof.ListNew
import PyProof.StrCalls2
import PySem.Challenge.RW_fewopen_k05_nought_sums_told
set_option compiler.extract_closed false
set_option bootstrap.genMatcherCode false
set_option genSizeOf false
set_option Elab.async false
set_option linter.all false
set_option maxRecDepth 100000
namespace L2
open PySem PySem.Spec PyProof.Rows
noncomputable abbrev Key := Sum Int Str
noncomputable def keyIs : Key → Value → Bool
 | .inl k, v => Value.isInt k v
 | .inr x, v => Value.isStrOf x v
noncomputable def keyH (w : World) : Key → Int
 | .inl k => hashInt k
 | .inr x => hashStr w x
theorem keyIs_shape : ∀ {k : Key} {v : Value}, keyIs k v = true → (∃ i t, k = Sum.inl i ∧ v = Value.int i t) ∨ (∃ x t, k = Sum.inr x ∧ v = Value.str x t)
 | .inl i, v, h => by
  obtain ⟨t, e⟩ := Value.isInt_shape (k := i) (v := v) h
  exact .inl ⟨i, t, rfl, e⟩
 | .inr x, v, h => by
  obtain ⟨t, e⟩ := Value.isStrOf_shape (x := x) (v := v) h
  exact .inr ⟨x, t, rfl, e⟩
theorem keyIs_int (i : Int) (t : Tok) : keyIs (.inl i) (.int i t) = true := by simp [keyIs, Value.isInt]
theorem keyIs_str (x : Str) (t : Tok) : keyIs (.inr x) (.str x t) = true := by simp [keyIs, Value.isStrOf]
theorem key_ll (a b : Int) : decide ((Sum.inl a : Key) = Sum.inl b) = (a == b) := by
 by_cases e : a = b
 ·subst e; simp
 ·have h : ¬ (Sum.inl a : Key) = Sum.inl b := fun q => e (Sum.inl.inj q)
  rw [decide_eq_false h]
  exact (beq_eq_false_iff_ne.mpr e).symm
theorem key_rr (a b : Str) : decide ((Sum.inr a : Key) = Sum.inr b) = decide (a = b) := by
 by_cases e : a = b
 ·subst e; simp
 ·have h : ¬ (Sum.inr a : Key) = Sum.inr b := fun q => e (Sum.inr.inj q)
  rw [decide_eq_false h, decide_eq_false e]
theorem key_lr (a : Int) (b : Str) : decide ((Sum.inl a : Key) = Sum.inr b) = false := decide_eq_false (fun q => nomatch q)
theorem key_rl (a : Str) (b : Int) : decide ((Sum.inr a : Key) = Sum.inl b) = false := decide_eq_false (fun q => nomatch q)
noncomputable def mixKind (prog : Program) (w : World) : PySem.KeyKind prog w Key where
 is := keyIs
 hash := keyH w
 inj := fun v a b ha hb => by
  rcases keyIs_shape ha with ⟨i, t, rfl, rfl⟩ | ⟨x, t, rfl, rfl⟩
  ·rcases keyIs_shape hb with ⟨j, u, rfl, e⟩ | ⟨y, u, rfl, e⟩
   ·injection e with e1 _; rw [e1]
   ·exact nomatch e
  ·rcases keyIs_shape hb with ⟨j, u, rfl, e⟩ | ⟨y, u, rfl, e⟩
   ·exact nomatch e
   ·injection e with e1 _; rw [e1]
 byValue := fun k v h => by
  rcases keyIs_shape h with ⟨i, t, rfl, rfl⟩ | ⟨x, t, rfl, rfl⟩ <;> rfl
 pyHash := fun hv h => by
  rcases keyIs_shape hv with ⟨i, t, rfl, rfl⟩ | ⟨x, t, rfl, rfl⟩
  ·exact wpAny_pyHash_int h
  ·exact wpAny_pyHash_str h
 eqBool := fun hu hv h => by
  rcases keyIs_shape hu with ⟨i, t, rfl, rfl⟩ | ⟨x, t, rfl, rfl⟩
  ·rcases keyIs_shape hv with ⟨j, u, rfl, rfl⟩ | ⟨y, u, rfl, rfl⟩
   ·rw [key_ll] at h; exact wpAny_eqBool_int h
   ·rw [key_lr] at h; exact SeqAt.EqAt.int_str i t y u _ _ _ _ h
  ·rcases keyIs_shape hv with ⟨j, u, rfl, rfl⟩ | ⟨y, u, rfl, rfl⟩
   ·rw [key_rl] at h; exact SeqAt.EqAt.str_int x t j u _ _ _ _ h
   ·rw [key_rr] at h; exact wpAny_eqBool_str h
 «strs» := fun k x t v h => by
  rcases keyIs_shape h with ⟨i, u, rfl, e⟩ | ⟨y, u, rfl, e⟩
  ·exact nomatch e
  ·injection e with e1 _
   subst e1
   cases v <;> rfl
theorem mixKind_int (prog : Program) (w : World) (i : Int) (t : Tok) : (mixKind prog w).is (.inl i) (.int i t) = true := keyIs_int i t
theorem mixKind_str (prog : Program) (w : World) (x : Str) (t : Tok) : (mixKind prog w).is (.inr x) (.str x t) = true := keyIs_str x t
end L2
namespace L2
open PySem PySem.Spec PyProof.Rows
inductive V where
 | non | bl (b : Bool) | int (i : Int) | str (x : Str) | byt (b : Array UInt8) | flt (b : UInt64) | ref (a : Addr) | ty (n : String)
 deriving DecidableEq
noncomputable def RelV : V → Value → Prop
 | .non, u => u = Value.none
 | .bl b, u => u = Value.bool b
 | .int i, u => ∃ t, u = Value.int i t
 | .str x, u => ∃ t, u = Value.str x t
 | .byt b, u => ∃ t, u = Value.bytes b t
 | .flt b, u => ∃ t, u = Value.float b t
 | .ref a, u => u = Value.ref a
 | .ty n, u => u = Value.type n
noncomputable abbrev Vals : List V → List Value → Prop := Paired RelV
theorem Vals.length {xs : List V} {us : List Value} (r : Vals xs us) : xs.length = us.length := Paired.length r
theorem Vals.get : ∀ {xs : List V} {us : List Value} {i : Nat} {x : V}, Vals xs us → xs[i]? = some x → ∃ u, us[i]? = some u ∧ RelV x u
 | _, _, _, _, .nil, e => by simp at e
 | _, _, 0, _, .cons r _, e => by simp at e; subst e; exact ⟨_, rfl, r⟩
 | _, _, i + 1, x, .cons _ t, e => by
  obtain ⟨u, h1, h2⟩ := Vals.get (i := i) (x := x) t (by simpa using e)
  exact ⟨u, by simpa using h1, h2⟩
theorem Vals.set {x : V} {u : Value} (r : RelV x u) : ∀ {xs : List V} {us : List Value} (i : Nat), Vals xs us → Vals (xs.set i x) (us.set i u)
 | _, _, _, .nil => .nil
 | _, _, 0, .cons _ t => .cons r t
 | _, _, i + 1, .cons q t => .cons q (Vals.set r i t)
theorem Vals.append : ∀ {xs ys : List V} {us ws : List Value}, Vals xs us → Vals ys ws → Vals (xs ++ ys) (us ++ ws)
 | _, _, _, _, .nil, s => s
 | _, _, _, _, .cons r t, s => .cons r (Vals.append t s)
noncomputable def RelO : Option V → Option Value → Prop
 | some v, some u => RelV v u
 | none, none => True
 | _, _ => False
noncomputable def KV {κ : Type} : List (κ × V) → List (κ × Value) → Prop := Paired fun (p : κ × V) (q : κ × Value) => p.1 = q.1 ∧ RelV p.2 q.2
noncomputable def kV : Key → V
 | .inl i => .int i
 | .inr x => .str x
inductive HO where
 | lst (xs : List V)
 | tup (xs : List V)
 | dK (kvs : List (Key × V)) | dT (kvs : List (List Key × V))
 | set (S : Int → Bool) (n : Nat)
 | ins (C dx : Addr) (fs : List (Str × V))
 | own (x : Addr)
 | xd (fs : List (Str × V))
 | met (f x : Addr)
 | rng (lo hi : Int)
 | frz (o : Obj) (u : HO)
 | tbl (ps : Array Value)
 | ext (φ : Heap → Prop)
noncomputable abbrev Hp := Addr → Option HO
noncomputable def upd (H : Hp) (a : Addr) (o : HO) : Hp := fun b => if b = a then some o else H b
theorem upd_same {H : Hp} {a : Addr} {o : HO} : upd H a o a = some o := by unfold upd; rw [if_pos rfl]
theorem upd_ne {H : Hp} {a b : Addr} {o : HO} (h : b ≠ a) : upd H a o b = H b := by unfold upd; rw [if_neg h]
theorem ne_of {H : Hp} {a b : Addr} {o u : HO} (h : H a = some o) (h' : H b = some u) (d : o ≠ u) : a ≠ b := by
 intro e; subst e; rw [h] at h'; exact d (Option.some.inj h')
theorem ne_of_none {H : Hp} {a b : Addr} {o : HO} (h : H a = some o) (h' : H b = none) : a ≠ b := by
 intro e; subst e; rw [h] at h'; cases h'
section
variable (P : Program) (w : World)
noncomputable def ObjOk (H : Hp) (h : Heap) (a : Addr) : HO → Prop
 | .lst xs => xs.length ≤ sizeLine ∧ ∃ (its : List Value) (n : Nat), Vals xs its ∧ h.get? a = some { cls := .type "list", data := .seq its.toArray n }
 | .tup xs => xs.length ≤ sizeLine ∧ ∃ its : List Value, Vals xs its ∧ IsTup h a its.toArray
 | .dK kvs => kvs.length ≤ sizeLine ∧ (a == sysModules) = false ∧ ∃ vs, KV kvs vs ∧ h.DictAt (mixKind P w) a vs vs.length
 | .dT kvs => kvs.length ≤ sizeLine ∧ (a == sysModules) = false ∧ ∃ xs : List (List Key × Addr × Value),
   Paired (fun (p : List Key × V) (q : List Key × Addr × Value) => p.1 = q.1 ∧ H q.2.1 = some (.tup (p.1.map kV)) ∧ RelV p.2 q.2.2) kvs xs ∧
   ∃ o es ep, h.get? a = some o ∧ o.ExactDict ∧ o.data = .dict es ep ∧ es.toList = xs.map (entryOfKey (tupleKind (mixKind P w))) ∧ (xs.map (·.1)).Nodup
 | .set S n => h.SetOf (intKind P w) a S n
 | .ins C dx fs => H dx = some (.own a) ∧ fs.length ≤ 1000 ∧ dx ≠ a ∧ h.get? a = some (PySem.W.instObj C dx) ∧
   ∃ mA, h.Ns1 dx mA ∧ (∀ f, RelO (fs.lookup f) (mA f)) ∧ PySem.Within mA (fs.map (·.1))
 | .own _ => ∃ o, h.get? a = some o
 | .xd fs => ∃ mA, h.Ns1 a mA ∧ ∀ f, RelO (fs.lookup f) (mA f)
 | .rng lo hi => ∃ t u v, h.get? a = some { cls := .type "range", data := .fields #[.int lo t, .int hi u, .int 1 v] }
 | .frz o u => h.get? a = some o ∧ ObjOk H h a u
 | .tbl ps => h.get? a = some { cls := .none, data := .fields ps }
 | .met f x => h.get? a = some (PySem.W.methodObj (.ref f) (.ref x))
 | .ext φ => φ h ∧ (∃ o, h.get? a = some o) ∧ ∀ h1 h2 : Heap, φ h1 → (∀ o, h1.get? a = some o → h2.get? a = some o) → φ h2
noncomputable def HOk (H : Hp) (h : Heap) : Prop := ∀ a o, H a = some o → ObjOk P w H h a o
end
section
variable {P : Program} {w : World} {H H' : Hp} {h h' : Heap} {a : Addr} {o : HO}
theorem ObjOk.lt (x : ObjOk P w H h a o) : a < h.objs.size := by
 cases o with
 | lst xs => obtain ⟨_, _, _, _, e⟩ := x; exact Heap.lt_size e
 | tup xs => obtain ⟨_, _, _, p⟩ := x; exact p.lt
 | dK kvs => obtain ⟨_, _, _, _, o, _, e, _⟩ := x; exact Heap.lt_size e
 | dT kvs => obtain ⟨_, _, _, _, o, _, _, e, _⟩ := x; exact Heap.lt_size e
 | set S n => obtain ⟨o, _, _, _, e, _⟩ := x; exact Heap.lt_size e
 | ins C dx fs => obtain ⟨_, _, _, e, _⟩ := x; exact Heap.lt_size e
 | own y => obtain ⟨_, e⟩ := x; exact Heap.lt_size e
 | xd fs => obtain ⟨_, ⟨_, _, _, e, _⟩, _⟩ := x; exact Heap.lt_size e
 | rng lo hi => obtain ⟨_, _, _, e⟩ := x; exact Heap.lt_size e
 | frz ob u => obtain ⟨e, _⟩ := x; exact Heap.lt_size e
 | tbl ps => exact Heap.lt_size (show h.get? a = some _ from x)
 | met f y => exact Heap.lt_size (show h.get? a = some _ from x)
 | ext φ => obtain ⟨_, ⟨_, e⟩, _⟩ := x; exact Heap.lt_size e
theorem Paired.mapP {α β : Type} {F G : α → β → Prop} : ∀ {l₁ : List α} {l₂ : List β}, Paired F l₁ l₂ → (∀ a b, F a b → G a b) → Paired G l₁ l₂
 | _, _, .nil, _ => .nil
 | _, _, .cons r t, f => .cons (f _ _ r) (Paired.mapP t f)
theorem Paired.imp' {α β : Type} {F G : α → β → Prop} (f : ∀ a b, F a b → G a b) {l₁ : List α} {l₂ : List β} (r : Paired F l₁ l₂) : Paired G l₁ l₂ := Paired.mapP r f
theorem ObjOk.stay (x : ObjOk P w H h a o) (k : ∀ b u, (b = a ∨ H b = some (.own a)) → h.get? b = some u → h'.get? b = some u)
  (ho : ∀ b, H b = some (.own a) → H' b = some (.own a)) (ht : ∀ b xs, H b = some (.tup xs) → H' b = some (.tup xs)) : ObjOk P w H' h' a o := by
 induction o with
 | lst xs => obtain ⟨z, its, n, r, e⟩ := x; exact ⟨z, its, n, r, k _ _ (.inl rfl) e⟩
 | tup xs => obtain ⟨z, its, r, ob, e, c⟩ := x; exact ⟨z, its, r, ob, k _ _ (.inl rfl) e, c⟩
 | dK kvs => obtain ⟨z, y, vs, r, ob, es, e, c⟩ := x; exact ⟨z, y, vs, r, ob, es, k _ _ (.inl rfl) e, c⟩
 | dT kvs =>
  obtain ⟨z, y, xs, r, ob, es, ep, e, c⟩ := x
  exact ⟨z, y, xs, Paired.mapP r fun p q z => ⟨z.1, ht _ _ z.2.1, z.2.2⟩, ob, es, ep, k _ _ (.inl rfl) e, c⟩
 | set S n => obtain ⟨ob, es, ep, t, e, c⟩ := x; exact ⟨ob, es, ep, t, k _ _ (.inl rfl) e, c⟩
 | ins C dx fs =>
  obtain ⟨d, z, ne, e, mA, ⟨od, es, ep, e2, c⟩, r⟩ := x
  exact ⟨ho _ d, z, ne, k _ _ (.inl rfl) e, mA, ⟨od, es, ep, k _ _ (.inr d) e2, c⟩, r⟩
 | own y => obtain ⟨ob, e⟩ := x; exact ⟨ob, k _ _ (.inl rfl) e⟩
 | xd fs => obtain ⟨mA, ⟨od, es, ep, e, c⟩, r⟩ := x; exact ⟨mA, ⟨od, es, ep, k _ _ (.inl rfl) e, c⟩, r⟩
 | rng lo hi => obtain ⟨t, u, v, e⟩ := x; exact ⟨t, u, v, k _ _ (.inl rfl) e⟩
 | frz ob u ih => obtain ⟨e, q⟩ := x; exact ⟨k _ _ (.inl rfl) e, ih q⟩
 | tbl ps =>
  have e : h.get? a = some { cls := .none, data := .fields ps } := x
  show h'.get? a = some { cls := .none, data := .fields ps }
  exact k a _ (.inl rfl) e
 | met f y =>
  have e : h.get? a = some (PySem.W.methodObj (.ref f) (.ref y)) := x
  show h'.get? a = some (PySem.W.methodObj (.ref f) (.ref y))
  exact k a _ (.inl rfl) e
 | ext φ => obtain ⟨p, ⟨o, e⟩, st⟩ := x; exact ⟨st _ _ p fun o q => k _ _ (.inl rfl) q, ⟨o, k _ _ (.inl rfl) e⟩, st⟩
theorem HOk.lt (x : HOk P w H h) (e : H a = some o) : a < h.objs.size := (x a o e).lt
theorem HOk.fresh (x : HOk P w H h) (e : h.objs.size ≤ a) : H a = none := by
 cases q : H a with
 | none => rfl
 | some u => exact absurd (Nat.lt_of_lt_of_le (x.lt q) e) (Nat.lt_irrefl _)
theorem HOk.kept (x : HOk P w H h) (k : ∀ b u, h.get? b = some u → h'.get? b = some u) : HOk P w H h' := fun a o e =>
 (x a o e).stay (fun b u _ q => k b u q) (fun _ q => q) fun _ _ q => q
theorem HOk.laid (x : HOk P w H h) (k : ∀ b u, h.get? b = some u → h'.get? b = some u) (hp : h.objs.size ≤ a) (new : ObjOk P w (upd H a o) h' a o) : HOk P w (upd H a o) h' := fun b u e => by
 have hn := x.fresh hp
 by_cases hb : b = a
 ·subst hb; rw [upd_same] at e; cases e; exact new
 ·rw [upd_ne hb] at e
  exact (x b u e).stay (fun c v _ q => k c v q) (fun c q => by rw [upd_ne (ne_of_none q hn)]; exact q) fun c xs q => by rw [upd_ne (ne_of_none q hn)]; exact q
end
noncomputable def Rd (H : Hp) (a : Addr) (u : HO) : Prop := H a = some u ∨ ∃ o, H a = some (.frz o u)
theorem Rd.ok {P : Program} {w : World} {H : Hp} {h : Heap} {a : Addr} {u : HO} (r : Rd H a u) (x : HOk P w H h) : ObjOk P w H h a u := by
 rcases r with r | ⟨o, r⟩
 ·exact x a u r
 ·obtain ⟨_, q⟩ := x a _ r
  exact q
noncomputable def Mut : Option HO → Prop
 | some (.lst _) => True
 | some (.dK _) => True
 | some (.dT _) => True
 | some (.set _ _) => True
 | some (.ins _ _ _) => True
 | some (.ext _) => True
 | _ => False
section
variable {P : Program} {w : World} {H : Hp} {h h' : Heap} {x e : Addr} {o' : HO}
theorem HOk.write (ok : HOk P w H h) (mu : Mut (H x)) (he : e = x ∨ H e = some (.own x)) (k : ∀ b u, b ≠ e → h.get? b = some u → h'.get? b = some u) (heo : ∃ u, h'.get? e = some u)
  (new : ObjOk P w (upd H x o') h' x o') : HOk P w (upd H x o') h' := fun b u q => by
 have nown : ∀ c y, H c = some (.own y) → c ≠ x := fun c y r z => by subst z; rw [r] at mu; exact mu
 have ntup : ∀ c xs, H c = some (.tup xs) → c ≠ x := fun c xs r z => by subst z; rw [r] at mu; exact mu
 by_cases hb : b = x
 ·subst hb; rw [upd_same] at q; cases q; exact new
 ·rw [upd_ne hb] at q
  by_cases hbe : b = e
  ·have q' : H b = some (.own x) := by
    rcases he with z | z
    ·exact absurd (hbe.trans z) hb
    ·rw [hbe]; exact z
   rw [q] at q'; cases q'
   obtain ⟨v, hv⟩ := heo
   exact ⟨v, by rw [hbe]; exact hv⟩
  ·refine (ok b u q).stay (fun c v hc r => k c v ?_ r) (fun c r => by rw [upd_ne (nown c b r)]; exact r) fun c xs r => by rw [upd_ne (ntup c xs r)]; exact r
   rcases hc with rfl | hc
   ·exact hbe
   ·rintro rfl
    rcases he with z | z
    ·exact nown c b hc z
    ·rw [hc] at z; cases z; exact hb rfl
end
structure Un (fs ex : List Addr) (H H' : Hp) (h h' : Heap) : Prop where
 keep : ∀ b o, h.get? b = some o → H b = none → b ∉ fs → b ∉ ex → h'.get? b = some o
 slot : ∀ b o, h.get? b = some o → H b = none → b ∈ fs → b ∉ ex → ∃ sl, h'.get? b = some { o with slots := sl }
 free : ∀ b o, h.get? b = some o → H b = none → b ∉ ex → H' b = none
 there : ∀ b o, h.get? b = some o → b ∉ ex → ∃ o', h'.get? b = some o'
 tups : ∀ b xs, H b = some (.tup xs) → H' b = some (.tup xs)
 frzs : ∀ b o u, H b = some (.frz o u) → H' b = some (.frz o u)
 tbls : ∀ b ps, H b = some (.tbl ps) → ∃ more, H' b = some (.tbl (ps ++ more))
section
variable {fs fs' ex ex' : List Addr} {H H1 H2 : Hp} {h h1 h2 h' : Heap} {a x e : Addr} {o : HO}
theorem Un.any (u : Un fs ex H H1 h h1) {b : Addr} {ob : Obj} (q : h.get? b = some ob) (n : H b = none) (hx : b ∉ ex) : ∃ sl, h1.get? b = some { ob with slots := sl } := by
 by_cases hb : b ∈ fs
 ·exact u.slot b ob q n hb hx
 ·exact ⟨ob.slots, u.keep b ob q n hb hx⟩
theorem Un.kept (k : ∀ b u, h.get? b = some u → h'.get? b = some u) : Un fs ex H H h h' :=
 ⟨fun b ob q _ _ _ => k b ob q, fun b ob q _ _ _ => ⟨ob.slots, k b ob q⟩, fun _ _ _ n _ => n, fun b ob q _ => ⟨ob, k b ob q⟩, fun _ _ q => q, fun _ _ _ q => q, fun _ ps q => ⟨#[], by rw [q]; simp⟩⟩
theorem Un.refl : Un fs ex H H h h := Un.kept fun _ _ q => q
theorem Un.laid (k : ∀ b u, h.get? b = some u → h'.get? b = some u) (hp : h.objs.size ≤ a) (hn : H a = none) : Un fs ex H (upd H a o) h h' where
 keep := fun b u q _ _ _ => k b u q
 slot := fun b u q _ _ _ => ⟨u.slots, k b u q⟩
 free := fun b u q n _ => by rw [upd_ne (Nat.ne_of_lt (Nat.lt_of_lt_of_le (Heap.lt_size q) hp))]; exact n
 there := fun b u q _ => ⟨u, k b u q⟩
 tups := fun b xs q => by rw [upd_ne (ne_of_none q hn)]; exact q
 frzs := fun b u xs q => by rw [upd_ne (ne_of_none q hn)]; exact q
 tbls := fun b ps q => ⟨#[], by rw [upd_ne (ne_of_none q hn), q]; simp⟩
theorem Un.write (mu : Mut (H x)) (he : e = x ∨ H e = some (.own x)) (k : ∀ b u, b ≠ e → h.get? b = some u → h'.get? b = some u) (heo : ∃ u, h'.get? e = some u) : Un fs ex H (upd H x o) h h' := by
 have hx : ∀ b, H b = none → b ≠ x := fun b n z => by subst z; rw [n] at mu; exact mu
 have hb : ∀ b, H b = none → b ≠ e := fun b n z => by
  subst z
  rcases he with r | r
  ·exact hx b n r
  ·rw [n] at r; cases r
 have hm : ∀ b u, H b = some u → ¬ Mut (some u) → b ≠ x := fun b u q nm z => by subst z; rw [q] at mu; exact nm mu
 refine ⟨fun b u q n _ _ => k b u (hb b n) q, fun b u q n _ _ => ⟨u.slots, k b u (hb b n) q⟩, fun b u q n _ => by rw [upd_ne (hx b n)]; exact n, fun b u q _ => ?_,
  fun b xs q => by rw [upd_ne (hm b _ q fun z => z)]; exact q, fun b u xs q => by rw [upd_ne (hm b _ q fun z => z)]; exact q, fun b ps q => ⟨#[], by rw [upd_ne (hm b _ q fun z => z), q]; simp⟩⟩
 by_cases hbe : b = e
 ·subst hbe; exact heo
 ·exact ⟨u, k b u hbe q⟩
end
noncomputable def trk (h : Heap) (H : Hp) : List Addr := (List.range h.objs.size).filter fun a => (H a).isSome
noncomputable def hidT (h : Heap) (H : Hp) : Heap := PySem.W.hideAll h (trk h H)
theorem hidT_size (h : Heap) (H : Hp) : (hidT h H).objs.size = h.objs.size := PySem.W.hideAll_size _ _
theorem hidT_get {h : Heap} {H : Hp} {b : Addr} {o : Obj} (e : h.get? b = some o) (n : H b = none) : (hidT h H).get? b = some o :=
 PySem.W.hideAll_get _ e fun hm => by
  have q : (H b).isSome = true := (List.mem_filter.mp hm).2
  rw [n] at q; simp at q
theorem of_hidT {h : Heap} {H : Hp} {b : Addr} {o : Obj} (e : (hidT h H).get? b = some o) : h.get? b = some o ∧ H b = none := by
 have e' : h.get? b = some o := PySem.W.of_hideAll (trk h H) e
 refine ⟨e', ?_⟩
 cases q : H b with
 | none => rfl
 | some x =>
  have hm : b ∈ trk h H := List.mem_filter.mpr ⟨List.mem_range.mpr (Heap.lt_size e'), by simp [q]⟩
  have z : (hidT h H).get? b = none := PySem.W.hideAll_none (trk h H) hm
  rw [z] at e; cases e
end L2
namespace L2
open PySem PySem.Spec PyProof.Rows
structure Mod (K : PySem.W.Frag) (mg : Str → Option Value) (base : Heap) : Prop where
 kin : K.In base
 glob : base.Ns mainGlobals mg
 blt : ∃ mb, base.Ns builtinsNs mb ∧ ∀ x : Str, x ≠ "__name__" → mb x = bootBuiltins x
 nolimit : base.NoLimit
/-- the context: a def's body (or a comprehension's block) running. base: fixed through the whole law; s₀, H₀: the entry; outer: the frames whose slots others may change (a def's callers); stack: all frames that run;
  ex: iterators that were made ahead of the entry and are walked here (a comprehension's); fn: the names whose cells were made at the entry (a def: all; a comprehension's block: its own); calm: not within an except suite; pn: pins that every state bears; xe: what is wanted of an exception that leaves the code -/
structure Cx where
 prog : Program
 w : World
 K : PySem.W.Frag
 mg : Str → Option Value
 base : Heap
 A : Around
 N : List Str
 s₀ : Shared
 H₀ : Hp
 env : Env
 outer : List Env
 stack : List Env
 ex : List Addr
 fn : Str → Bool
 calm : Bool
 pn : List (Addr × Obj)
 xe : Value → Shared → Prop
noncomputable def frs (l : List Env) : List Addr := l.filterMap (·.frame)
noncomputable abbrev Cx.fs (X : Cx) : List Addr := frs X.outer
noncomputable def Vis (sc : Scope) (x : Str) : Prop := sc.names.lookup x = some .local ∨ sc.names.lookup x = some .cell ∨ sc.names.lookup x = some .free
noncomputable def Loc (sc : Scope) (x : Str) : Prop := sc.names.lookup x = some .local ∨ sc.names.lookup x = some .cell
noncomputable def Look (env : Env) (h : Heap) (m : Str → Option Value) (x : Str) (u : Value) : Prop :=
 (env.kindOf x = some .local ∧ m x = some u) ∨ ((env.kindOf x = some .cell ∨ env.kindOf x = some .free) ∧ ∃ c, env.cells.lookup x = some c ∧ h.IsCell c (some u))
structure Cx.Ok (X : Cx) : Prop where
 mod : Mod X.K X.mg X.base
 kind : X.env.scope.kind = .function
 glob : X.env.globals = mainGlobals
 blt : X.env.builtins = builtinsNs
 above : X.s₀.heap.objs.size ≤ X.env.locals
 inj : ∀ x y c, X.env.cells.lookup x = some c → X.env.cells.lookup y = some c → x = y
 has : ∀ x, (X.env.kindOf x = some .cell ∨ X.env.kindOf x = some .free) → ∃ c, X.env.cells.lookup x = some c
 cab : ∀ x c, X.fn x = true → X.env.cells.lookup x = some c → X.s₀.heap.objs.size ≤ c
 hd : X.calm = true → X.A.handled = none
 frames : X.A.frames = some X.stack
 stk : X.stack = X.outer ∨ (X.stack = X.env :: X.outer ∧ X.env.frame = some X.env.locals)
 exf : ∀ b ∈ X.ex, b ≠ X.env.locals ∧ ∀ x c, X.env.cells.lookup x = some c → c ≠ b
 bs : ∀ b o, X.base.get? b = some o → X.s₀.heap.get? b = some o ∧ X.H₀ b = none
 bsz : X.base.objs.size ≤ X.s₀.heap.objs.size
 noex : ∀ b o, X.base.get? b = some o → b ∉ X.ex
 exfs : ∀ b ∈ X.ex, b ∉ X.fs
 funs : X.s₀.heap.FunFrames X.base X.outer
 frf : ∀ b ∈ X.fs, X.H₀ b = none
structure Inv (X : Cx) (pins : List (Addr × Obj)) (σ : List (Option V)) (H : Hp) (s : Shared) : Prop where
 ok : X.Ok
 os : s.os = X.s₀.os
 bare : AllBare s.gens
 base : Un X.fs X.ex X.H₀ H X.s₀.heap s.heap
 loc : ∃ m, s.heap.Ns X.env.locals m ∧ ∀ (i : Nat) (x : Str) (v : V), X.N[i]? = some x → σ[i]? = some (some v) → Vis X.env.scope x → ∃ u, RelV v u ∧ Look X.env s.heap m x u
 cell : ∀ x c, X.env.cells.lookup x = some c → ∃ v, s.heap.IsCell c v
 free : H X.env.locals = none
 freeC : ∀ x c, X.env.cells.lookup x = some c → H c = none
 pin : ∀ p ∈ X.pn ++ pins, s.heap.get? p.1 = some p.2 ∧ H p.1 = none ∧ p.1 ≠ X.env.locals ∧ p.1 ∉ X.fs ∧ ∀ v, p.2.data ≠ .cell v
 hok : HOk X.prog X.w H s.heap
 len : σ.length = X.N.length
section
variable {X : Cx} {pins : List (Addr × Obj)} {σ : List (Option V)} {H H' : Hp} {s : Shared} {h' : Heap}
theorem Cx.Ok.nofr (ok : X.Ok) {b : Addr} {o : Obj} (e : X.base.get? b = some o) : b ∉ X.fs := fun hb => by
 have := (ok.funs.mem hb).1
 rw [e] at this; cases this
theorem Inv.bs (I : Inv X pins σ H s) : ∀ b o, X.base.get? b = some o → s.heap.get? b = some o ∧ H b = none := fun b o e =>
 ⟨I.base.keep b o (I.ok.bs b o e).1 (I.ok.bs b o e).2 (I.ok.nofr e) (I.ok.noex b o e), I.base.free b o (I.ok.bs b o e).1 (I.ok.bs b o e).2 (I.ok.noex b o e)⟩
theorem Inv.bk (I : Inv X pins σ H s) : ∀ b o, X.base.get? b = some o → s.heap.get? b = some o := fun b o e => (I.bs b o e).1
theorem Inv.mod (I : Inv X pins σ H s) : Mod X.K X.mg X.base := I.ok.mod
theorem Inv.kIn (I : Inv X pins σ H s) : X.K.In s.heap := I.ok.mod.kin.keeps I.bk
theorem Inv.nolimit (I : Inv X pins σ H s) : s.heap.NoLimit := I.ok.mod.nolimit.keeps I.bk
theorem Inv.lt (I : Inv X pins σ H s) : X.env.locals < s.heap.objs.size := let ⟨_, hn, _⟩ := I.loc; hn.lt
theorem Inv.sz (I : Inv X pins σ H s) : X.s₀.heap.objs.size ≤ s.heap.objs.size := Nat.le_trans I.ok.above (Nat.le_of_lt I.lt)
theorem Inv.nofs (I : Inv X pins σ H s) {a : Addr} (h : s.heap.objs.size ≤ a) : a ∉ X.fs := fun hb => by
 obtain ⟨_, o, ho, _⟩ := I.ok.funs.mem hb
 exact absurd (Nat.lt_of_lt_of_le (Heap.lt_size ho) (Nat.le_trans I.sz h)) (Nat.lt_irrefl _)
theorem Inv.cne (I : Inv X pins σ H s) : ∀ x c, X.env.cells.lookup x = some c → c ≠ X.env.locals := fun x c e z => by
 obtain ⟨v, o, ho, hd⟩ := I.cell x c e
 obtain ⟨m, ⟨o', es, ep, ho', hd', _⟩, _⟩ := I.loc
 rw [z, ho'] at ho; cases ho; rw [hd'] at hd; cases hd
theorem Inv.funs (I : Inv X pins σ H s) : s.heap.FunFrames X.base X.outer := by
 have all : ∀ (l : List Env), (∀ b ∈ frs l, b ∈ X.fs) → X.s₀.heap.FunFrames X.base l → s.heap.FunFrames X.base l := by
  intro l
  induction l with
  | nil => intro _ _; trivial
  | cons env r ih =>
   intro hs hl
   obtain ⟨hk, ⟨L, o, hf, hn, ho, hd⟩, hr⟩ := hl
   have hL : L ∈ X.fs := hs L (by unfold frs; rw [List.filterMap_cons, hf]; exact List.mem_cons_self)
   obtain ⟨sl, e⟩ := I.base.slot L o ho (I.ok.frf L hL) hL fun z => I.ok.exfs L z hL
   exact ⟨hk, ⟨L, _, hf, hn, e, hd⟩, ih (fun b hb => hs b (by unfold frs; rw [List.filterMap_cons, hf]; exact List.mem_cons_of_mem _ hb)) hr⟩
 exact all X.outer (fun _ hb => hb) I.ok.funs
theorem Inv.stack (I : Inv X pins σ H s) : s.heap.FunFrames X.base X.stack := by
 rcases I.ok.stk with e | ⟨e, hf⟩
 ·rw [e]; exact I.funs
 ·rw [e]
  obtain ⟨m, hn, _⟩ := I.loc
  refine .cons (by rw [I.ok.kind]; decide) hf hn ?_ I.funs
  exact Heap.get?_none_of_le (Nat.le_trans I.ok.bsz I.ok.above)
theorem Inv.stkSub (I : Inv X pins σ H s) : ∀ b ∈ frs X.stack, b ∈ X.env.locals :: X.fs := fun b hb => by
 rcases I.ok.stk with e | ⟨e, hf⟩
 ·rw [e] at hb; exact List.mem_cons_of_mem _ hb
 ·rw [e] at hb
  unfold frs at hb
  rw [List.filterMap_cons, hf] at hb
  exact hb
theorem Inv.stkFree (I : Inv X pins σ H s) : ∀ b ∈ frs X.stack, H b = none := fun b hb => by
 rcases List.mem_cons.mp (I.stkSub b hb) with e | hb
 ·rw [e]; exact I.free
 ·obtain ⟨_, o, ho, _⟩ := I.ok.funs.mem hb
  exact I.base.free b o ho (I.ok.frf b hb) fun z => I.ok.exfs b z hb
theorem Inv.step {g' : Array GenState} {t' : Nat} {d' : Drawn} {ch : List Addr} (I : Inv X pins σ H s)
  (hch : ∀ b ∈ ch, (b ∈ X.ex ∨ X.s₀.heap.objs.size ≤ b) ∧ b ≠ X.env.locals ∧ (∀ x c, X.env.cells.lookup x = some c → c ≠ b) ∧ ∀ p ∈ X.pn ++ pins, p.1 ≠ b)
  (keep : ∀ b o, b ≠ X.env.locals → b ∉ X.fs → b ∉ ch → s.heap.get? b = some o → H b = none → h'.get? b = some o)
  (slot : ∀ b o, b ≠ X.env.locals → b ∈ X.fs → b ∉ ch → s.heap.get? b = some o → H b = none → ∃ sl, h'.get? b = some { o with slots := sl }) (free : ∀ b o, b ∉ ch → s.heap.get? b = some o → H b = none → H' b = none)
  (there : ∀ b o, b ∉ ch → s.heap.get? b = some o → ∃ o', h'.get? b = some o')
  (tups : ∀ b xs, H b = some (.tup xs) → H' b = some (.tup xs)) (frzs : ∀ b o u, H b = some (.frz o u) → H' b = some (.frz o u)) (tbls : ∀ b ps, H b = some (.tbl ps) → ∃ more, H' b = some (.tbl (ps ++ more)))
  (ns : ∀ m, s.heap.Ns X.env.locals m → h'.Ns X.env.locals m) (hok : HOk X.prog X.w H' h') (hg : AllBare g') :
  Inv X pins σ H' { s with heap := h', gens := g', drawn := d', toks := t' } := by
 have neL : ∀ b o, X.s₀.heap.get? b = some o → b ≠ X.env.locals := fun b o e => Nat.ne_of_lt (Nat.lt_of_lt_of_le (Heap.lt_size e) I.ok.above)
 have neC : ∀ b o, X.s₀.heap.get? b = some o → b ∉ X.ex → b ∉ ch := fun b o e hx hb => by
  rcases (hch b hb).1 with z | z
  ·exact hx z
  ·exact absurd (Nat.lt_of_lt_of_le (Heap.lt_size e) z) (Nat.lt_irrefl _)
 have cellK : ∀ x c, X.env.cells.lookup x = some c → ∀ v, s.heap.IsCell c v → h'.IsCell c v := fun x c e v hX11_ => by
  obtain ⟨o, ho, hd⟩ := hX11_
  have nch : c ∉ ch := fun z => (hch c z).2.2.1 x c e rfl
  by_cases hc : c ∈ X.fs
  ·obtain ⟨sl, q⟩ := slot c o (I.cne x c e) hc nch ho (I.freeC x c e)
   exact ⟨_, q, hd⟩
  ·exact ⟨o, keep c o (I.cne x c e) hc nch ho (I.freeC x c e), hd⟩
 refine ⟨I.ok, I.os, hg, ⟨fun b o e n hb hx => ?_, fun b o e n hb hx => ?_, fun b o e n hx => ?_, fun b o e hx => ?_, fun b xs e => tups b xs (I.base.tups b xs e), fun b o xs e => frzs b o xs (I.base.frzs b o xs e), fun b ps e => ?_⟩, ?_, fun x c e => ?_, ?_, fun x c e => ?_, fun p hp => ?_, hok, I.len⟩
 ·exact keep b o (neL b o e) hb (neC b o e hx) (I.base.keep b o e n hb hx) (I.base.free b o e n hx)
 ·obtain ⟨sl, e1⟩ := I.base.slot b o e n hb hx
  obtain ⟨sl', e2⟩ := slot b _ (neL b o e) hb (neC b o e hx) e1 (I.base.free b o e n hx)
  exact ⟨sl', e2⟩
 ·obtain ⟨o', e1⟩ := I.base.there b o e hx
  exact free b o' (neC b o e hx) e1 (I.base.free b o e n hx)
 ·obtain ⟨o', e1⟩ := I.base.there b o e hx
  exact there b o' (neC b o e hx) e1
 ·obtain ⟨m1, e1⟩ := I.base.tbls b ps e
  obtain ⟨m2, e2⟩ := tbls b _ e1
  exact ⟨m1 ++ m2, by rw [e2, Array.append_assoc]⟩
 ·obtain ⟨m, hn, hl⟩ := I.loc
  refine ⟨m, ns m hn, fun i x v e1 e2 e3 => ?_⟩
  obtain ⟨u, r, l⟩ := hl i x v e1 e2 e3
  refine ⟨u, r, ?_⟩
  rcases l with l | ⟨k, c, e, z⟩
  ·exact .inl l
  ·exact .inr ⟨k, c, e, cellK x c e _ z⟩
 ·obtain ⟨v, z⟩ := I.cell x c e
  exact ⟨v, cellK x c e v z⟩
 ·obtain ⟨m, ⟨o, _, _, ho, _⟩, _⟩ := I.loc
  exact free _ o (fun z => (hch _ z).2.1 rfl) ho I.free
 ·obtain ⟨v, o, ho, hd⟩ := I.cell x c e
  exact free c o (fun z => (hch c z).2.2.1 x c e rfl) ho (I.freeC x c e)
 ·obtain ⟨e, n, ne, nf, d⟩ := I.pin p hp
  have nch : p.1 ∉ ch := fun z => (hch p.1 z).2.2.2 p hp rfl
  exact ⟨keep p.1 p.2 ne nf nch e n, free p.1 p.2 nch e n, ne, nf, d⟩
theorem Inv.un {t' : Nat} (I : Inv X pins σ H s) (u : Un X.fs [] H H' s.heap h') (hok : HOk X.prog X.w H' h') : Inv X pins σ H' { s with heap := h', toks := t' } := by
 obtain ⟨m, ⟨o, es, ep, ho, r⟩, _⟩ := id I.loc
 obtain ⟨sl, hL⟩ := u.any ho I.free (by simp)
 exact I.step (g' := s.gens) (d' := s.drawn) (ch := []) (fun _ z => nomatch z) (fun b o _ hb _ e n => u.keep b o e n hb (by simp)) (fun b o _ hb _ e n => u.slot b o e n hb (by simp)) (fun b o _ e n => u.free b o e n (by simp)) (fun b o _ e => u.there b o e (by simp)) u.tups u.frzs u.tbls (fun m' hm => by
  obtain ⟨o', es', ep', ho', r'⟩ := hm
  rw [ho] at ho'; cases ho'
  exact ⟨_, es', ep', hL, r'⟩) hok I.bare
theorem Inv.call {g' : Array GenState} {t' : Nat} {d' : Drawn} {ch : List Addr} (I : Inv X pins σ H s) (u : Un (frs X.stack) ch H H' s.heap h') (hok : HOk X.prog X.w H' h') (hg : AllBare g')
  (hch : ∀ b ∈ ch, (b ∈ X.ex ∨ X.s₀.heap.objs.size ≤ b) ∧ b ≠ X.env.locals ∧ (∀ x c, X.env.cells.lookup x = some c → c ≠ b) ∧ ∀ p ∈ X.pn ++ pins, p.1 ≠ b) :
  Inv X pins σ H' { s with heap := h', gens := g', drawn := d', toks := t' } := by
 obtain ⟨m, ⟨o, es, ep, ho, r⟩, _⟩ := id I.loc
 obtain ⟨sl, hL⟩ := u.any ho I.free fun z => (hch _ z).2.1 rfl
 exact I.step (ch := ch) hch (fun b o hL hb hc e n => u.keep b o e n (fun z => (List.mem_cons.mp (I.stkSub b z)).elim hL hb) hc) (fun b o _ _ hc e n => u.any e n hc) (fun b o hc e n => u.free b o e n hc) (fun b o hc e => u.there b o e hc) u.tups u.frzs u.tbls (fun m' hm => by
  obtain ⟨o', es', ep', ho', r'⟩ := hm
  rw [ho] at ho'; cases ho'
  exact ⟨_, es', ep', hL, r'⟩) hok hg
theorem Inv.turned {t' : Nat} {it : Addr} (I : Inv X pins σ H s) (k : ∀ b o, b ≠ it → s.heap.get? b = some o → h'.get? b = some o) (hn : H it = none) (hL : it ≠ X.env.locals)
  (h1 : it ∈ X.ex ∨ X.s₀.heap.objs.size ≤ it) (h2 : ∀ x c, X.env.cells.lookup x = some c → c ≠ it) (h3 : ∀ p ∈ X.pn ++ pins, p.1 ≠ it) : Inv X pins σ H { s with heap := h', toks := t' } := by
 have nit : ∀ b u, H b = some u → b ≠ it := fun b u e z => by rw [z, hn] at e; cases e
 refine I.step (g' := s.gens) (d' := s.drawn) (ch := [it]) (fun b hb => ?_) (fun b o _ _ hc e _ => k b o (fun z => hc (by simp [z])) e) (fun b o _ _ hc e _ => ⟨o.slots, k b o (fun z => hc (by simp [z])) e⟩) (fun _ _ _ _ n => n)
  (fun b o hc e => ⟨o, k b o (fun z => hc (by simp [z])) e⟩) (fun _ _ e => e) (fun _ _ _ e => e) (fun b ps e => ⟨#[], by rw [e]; simp⟩) (fun m hm => ?_) (fun b u e => ?_) I.bare
 ·have e : b = it := by simpa using hb
  subst e
  exact ⟨h1, hL, h2, h3⟩
 ·obtain ⟨o, es, ep, ho, r⟩ := hm
  exact ⟨o, es, ep, k _ o (Ne.symm hL) ho, r⟩
 ·refine (I.hok b u e).stay (fun c v hc q => k c v ?_ q) (fun _ q => q) fun _ _ q => q
  rcases hc with z | z
  ·rw [z]; exact nit b u e
  ·exact nit c _ z
theorem Inv.tok (I : Inv X pins σ H s) (t : Nat) : Inv X pins σ H { s with toks := t } := I.un (h' := s.heap) (t' := t) Un.refl I.hok
theorem Inv.kept {t' : Nat} (I : Inv X pins σ H s) (k : ∀ b u, s.heap.get? b = some u → h'.get? b = some u) : Inv X pins σ H { s with heap := h', toks := t' } := I.un (Un.kept k) (I.hok.kept k)
theorem Inv.laid {a : Addr} {o : HO} {t' : Nat} (I : Inv X pins σ H s) (k : ∀ b u, s.heap.get? b = some u → h'.get? b = some u) (hp : s.heap.objs.size ≤ a) (new : ObjOk X.prog X.w (upd H a o) h' a o) :
  Inv X pins σ (upd H a o) { s with heap := h', toks := t' } := I.un (Un.laid k hp (I.hok.fresh hp)) (I.hok.laid k hp new)
theorem Inv.write {x e : Addr} {o : HO} {t' : Nat} (I : Inv X pins σ H s) (mu : Mut (H x)) (he : e = x ∨ H e = some (.own x)) (k : ∀ b u, b ≠ e → s.heap.get? b = some u → h'.get? b = some u) (heo : ∃ u, h'.get? e = some u)
  (new : ObjOk X.prog X.w (upd H x o) h' x o) : Inv X pins σ (upd H x o) { s with heap := h', toks := t' } := I.un (Un.write mu he k heo) (I.hok.write mu he k heo new)
theorem Inv.pins_of {pins' : List (Addr × Obj)} (I : Inv X pins σ H s) (h : ∀ p ∈ pins', s.heap.get? p.1 = some p.2 ∧ H p.1 = none ∧ p.1 ≠ X.env.locals ∧ p.1 ∉ X.fs ∧ ∀ v, p.2.data ≠ .cell v) : Inv X pins' σ H s :=
 ⟨I.ok, I.os, I.bare, I.base, I.loc, I.cell, I.free, I.freeC, fun p hp => (List.mem_append.mp hp).elim (fun z => I.pin p (List.mem_append_left _ z)) (h p), I.hok, I.len⟩
theorem nodup_ix {N : List Str} (hN : N.Nodup) {i j : Nat} {x : Str} (a : N[i]? = some x) (b : N[j]? = some x) : i = j := by
 obtain ⟨h1, e1⟩ := List.getElem?_eq_some_iff.mp a
 obtain ⟨h2, e2⟩ := List.getElem?_eq_some_iff.mp b
 exact (List.getElem_inj hN).mp (e1.trans e2.symm)
theorem store_ok2 {M : Model} {A : Around} {E : Value → Shared → Prop} {i : Nat} {x : Str} {v : V} {u : Value} {Q : Unit → Shared → Prop} (I : Inv X pins σ H s) (hN : X.N.Nodup) (hi : X.N[i]? = some x) (hx : Loc X.env.scope x) (r : RelV v u)
  (h : ∀ s', Inv X pins (σ.set i (some v)) H s' → (∃ a, Heap.SameBut a s.heap s'.heap ∧ (a = X.env.locals ∨ X.env.cells.lookup x = some a)) → Q () s') (hf : X.fn x = true ∨ X.env.scope.names.lookup x = some .local := by first | exact .inl rfl | exact .inr rfl | assumption) : wpAny M A (storeName X.env x u) Q E s := by
 obtain ⟨m, hn, hl⟩ := id I.loc
 have hcls : (X.env.scope.kind == .class || (X.env.scope.kind == .module && X.env.locals != X.env.globals)) = false := by rw [I.ok.kind]; rfl
 have hiσ : i < σ.length := by rw [I.len]; exact (List.getElem?_eq_some_iff.mp hi).1
 have cne := I.cne
 have tracked : ∀ {a : Addr} {h' : Heap}, (∃ o, s.heap.get? a = some o ∧ H a = none) → Heap.SameBut a s.heap h' → HOk X.prog X.w H h' := fun {a h'} ha hs b ob e => by
  obtain ⟨_, _, hfree⟩ := ha
  refine (I.hok b ob e).stay (fun c w' hc q => (hs.2 c ?_).trans q) (fun _ q => q) fun _ _ q => q
  rintro rfl
  rcases hc with rfl | hc
  ·rw [hfree] at e; cases e
  ·rw [hfree] at hc; cases hc
 rcases hx with hk | hk
 ·refine wpAny_storeName_local hk hn (fun h' hn' hs => ?_) hcls
  obtain ⟨oL, _, _, hoL, _⟩ := id hn
  refine h _ ⟨I.ok, I.os, I.bare, ⟨fun b o e n hb hx => ?_, fun b o e n hb hx => ?_, I.base.free, fun b o e hx => ?_, I.base.tups, I.base.frzs, I.base.tbls⟩, ⟨_, hn', fun j y v' e1 e2 e3 => ?_⟩, fun y c e => ?_, I.free, I.freeC, fun p hp => ?_, tracked ⟨oL, hoL, I.free⟩ hs, by simpa using I.len⟩ ⟨_, hs, .inl rfl⟩
  ·exact (hs.2 b (Nat.ne_of_lt (Nat.lt_of_lt_of_le (Heap.lt_size e) I.ok.above))).trans (I.base.keep b o e n hb hx)
  ·obtain ⟨sl, e1⟩ := I.base.slot b o e n hb hx
   exact ⟨sl, (hs.2 b (Nat.ne_of_lt (Nat.lt_of_lt_of_le (Heap.lt_size e) I.ok.above))).trans e1⟩
  ·obtain ⟨o', e1⟩ := I.base.there b o e hx
   exact ⟨o', (hs.2 b (Nat.ne_of_lt (Nat.lt_of_lt_of_le (Heap.lt_size e) I.ok.above))).trans e1⟩
  ·by_cases hj : j = i
   ·subst hj
    rw [hi] at e1; cases e1
    rw [List.getElem?_set_self hiσ] at e2
    cases e2
    exact ⟨u, r, .inl ⟨hk, by simp⟩⟩
   ·rw [List.getElem?_set_ne (Ne.symm hj)] at e2
    obtain ⟨u', r', q⟩ := hl j y v' e1 e2 e3
    refine ⟨u', r', ?_⟩
    rcases q with ⟨k, e⟩ | ⟨k, c, e, z⟩
    ·refine .inl ⟨k, ?_⟩
     have : y ≠ x := fun e => hj (nodup_ix hN e1 (e ▸ hi))
     simp [this, e]
    ·exact .inr ⟨k, c, e, z.sameBut hs (cne y c e)⟩
  ·obtain ⟨w', z⟩ := I.cell y c e
   exact ⟨w', z.sameBut hs (cne y c e)⟩
  ·obtain ⟨e, n, ne, nf, d⟩ := I.pin p hp
   exact ⟨(hs.2 p.1 ne).trans e, n, ne, nf, d⟩
 ·have hfn : X.fn x = true := by
   rcases hf with z | z
   ·exact z
   ·rw [z] at hk; cases hk
  obtain ⟨c, hc⟩ := I.ok.has x (.inl hk)
  obtain ⟨w', z⟩ := I.cell x c hc
  refine wpAny_storeName_cell I.ok.kind hk hc z (fun h' hc' hs => ?_)
  obtain ⟨oc, hoc, hocd⟩ := id z
  refine h { s with heap := h' } ⟨I.ok, I.os, I.bare, ⟨fun b o e n hb hx => ?_, fun b o e n hb hx => ?_, I.base.free, fun b o e hx => ?_, I.base.tups, I.base.frzs, I.base.tbls⟩, ⟨m, hn.sameBut hs (Ne.symm (cne x c hc)), fun j y v' e1 e2 e3 => ?_⟩, fun y c' e => ?_, I.free, I.freeC, fun p hp => ?_, tracked ⟨oc, hoc, I.freeC x c hc⟩ hs, by simpa using I.len⟩ ⟨c, hs, .inr hc⟩
  ·exact (hs.2 b (Nat.ne_of_lt (Nat.lt_of_lt_of_le (Heap.lt_size e) (I.ok.cab x c hfn hc)))).trans (I.base.keep b o e n hb hx)
  ·obtain ⟨sl, e1⟩ := I.base.slot b o e n hb hx
   exact ⟨sl, (hs.2 b (Nat.ne_of_lt (Nat.lt_of_lt_of_le (Heap.lt_size e) (I.ok.cab x c hfn hc)))).trans e1⟩
  ·obtain ⟨o', e1⟩ := I.base.there b o e hx
   exact ⟨o', (hs.2 b (Nat.ne_of_lt (Nat.lt_of_lt_of_le (Heap.lt_size e) (I.ok.cab x c hfn hc)))).trans e1⟩
  ·by_cases hj : j = i
   ·subst hj
    rw [hi] at e1; cases e1
    rw [List.getElem?_set_self hiσ] at e2
    cases e2
    exact ⟨u, r, .inr ⟨.inl hk, c, hc, hc'⟩⟩
   ·rw [List.getElem?_set_ne (Ne.symm hj)] at e2
    obtain ⟨u', r', q⟩ := hl j y v' e1 e2 e3
    refine ⟨u', r', ?_⟩
    rcases q with q | ⟨k, c', e, z'⟩
    ·exact .inl q
    ·refine .inr ⟨k, c', e, z'.sameBut hs ?_⟩
     rintro rfl
     exact hj (nodup_ix hN e1 (I.ok.inj _ _ _ e hc ▸ hi))
  ·by_cases hcc : c' = c
   ·subst hcc; exact ⟨_, hc'⟩
   ·obtain ⟨w2, z2⟩ := I.cell y c' e
    exact ⟨w2, z2.sameBut hs hcc⟩
  ·obtain ⟨e, n, ne, nf, d⟩ := I.pin p hp
   refine ⟨(hs.2 p.1 ?_).trans e, n, ne, nf, d⟩
   intro q
   rw [q, hoc] at e
   have q' : oc = p.2 := Option.some.inj e
   exact d w' (by rw [← q']; exact hocd)
theorem store_ok {M : Model} {A : Around} {E : Value → Shared → Prop} {i : Nat} {x : Str} {v : V} {u : Value} {Q : Unit → Shared → Prop} (I : Inv X pins σ H s) (hN : X.N.Nodup) (hi : X.N[i]? = some x) (hx : Loc X.env.scope x) (r : RelV v u)
  (h : ∀ s', Inv X pins (σ.set i (some v)) H s' → Q () s') (hf : X.fn x = true ∨ X.env.scope.names.lookup x = some .local := by first | exact .inl rfl | exact .inr rfl | assumption) : wpAny M A (storeName X.env x u) Q E s :=
 store_ok2 I hN hi hx r (fun s' I' _ => h s' I') hf
theorem Inv.call' {s' : Shared} {ch : List Addr} (I : Inv X pins σ H s) (ho : s'.os = s.os) (u : Un (frs X.stack) ch H H' s.heap s'.heap) (hok : HOk X.prog X.w H' s'.heap) (hg : AllBare s'.gens)
  (hch : ∀ b ∈ ch, (b ∈ X.ex ∨ X.s₀.heap.objs.size ≤ b) ∧ b ≠ X.env.locals ∧ (∀ x c, X.env.cells.lookup x = some c → c ≠ b) ∧ ∀ p ∈ X.pn ++ pins, p.1 ≠ b) : Inv X pins σ H' s' := by
 obtain ⟨h', g', d', t', o'⟩ := s'
 have e : o' = s.os := ho
 subst e
 exact I.call (g' := g') (t' := t') (d' := d') u hok hg hch
end
noncomputable abbrev XK := Value → Option Addr → Hp → Prop
noncomputable abbrev St := List (Option V)
noncomputable abbrev VK := V → Hp → Prop
noncomputable abbrev TE := St → Hp → VK → Prop
noncomputable abbrev TT := St → Hp → (Bool → Hp → Prop) → Prop
noncomputable abbrev TA := St → Hp → (List V → Hp → Prop) → Prop
structure Ends where
 nx : St → Hp → Prop
 rt : VK
 bk : St → Hp → Prop := fun _ _ => False
 ct : St → Hp → Prop := fun _ _ => False
noncomputable abbrev TS := Ends → St → Hp → Prop
noncomputable def EP (X : Cx) (pins : List (Addr × Obj)) (σ : St) (Q : VK) (u : Value) (s' : Shared) : Prop := ∃ v H', Inv X pins σ H' s' ∧ RelV v u ∧ Q v H'
noncomputable def TP (X : Cx) (pins : List (Addr × Obj)) (σ : St) (Q : Bool → Hp → Prop) (b : Bool) (s' : Shared) : Prop := ∃ H', Inv X pins σ H' s' ∧ Q b H'
noncomputable def AP (X : Cx) (pins : List (Addr × Obj)) (σ : St) (Q : List V → Hp → Prop) (us : List Value) (s' : Shared) : Prop := ∃ vs H', Inv X pins σ H' s' ∧ Vals vs us ∧ Q vs H'
noncomputable def SP (X : Cx) (pins : List (Addr × Obj)) (D : Ends) (f : Flow) (s' : Shared) : Prop :=
 match f with
 | .next => ∃ σ' H', Inv X pins σ' H' s' ∧ D.nx σ' H'
 | .brk => ∃ σ' H', Inv X pins σ' H' s' ∧ D.bk σ' H'
 | .cont => ∃ σ' H', Inv X pins σ' H' s' ∧ D.ct σ' H'
 | .ret u => ∃ v σ' H', Inv X pins σ' H' s' ∧ RelV v u ∧ D.rt v H'
noncomputable def PE (X : Cx) (e : Expr) (t : TE) : Prop :=
 ∀ (pins : List (Addr × Obj)) (s : Shared) (σ : St) (H : Hp) (Q : VK), Inv X pins σ H s → t σ H Q → wpAny (model X.prog X.w) X.A (eval e X.env) (EP X pins σ Q) X.xe s
noncomputable def PT (X : Cx) (e : Expr) (t : TT) : Prop :=
 ∀ (pins : List (Addr × Obj)) (s : Shared) (σ : St) (H : Hp) (Q : Bool → Hp → Prop), Inv X pins σ H s → t σ H Q → wpAny (model X.prog X.w) X.A (isTrue e X.env (eval e X.env)) (TP X pins σ Q) X.xe s
noncomputable def PW (X : Cx) (e : Expr) (t : TT) : Prop :=
 ∀ (whole : Sem Value) (pins : List (Addr × Obj)) (s : Shared) (σ : St) (H : Hp) (Q : Bool → Hp → Prop), Inv X pins σ H s → t σ H Q → wpAny (model X.prog X.w) X.A (isTrue e X.env whole) (TP X pins σ Q) X.xe s
theorem PW.pt {X : Cx} {e : Expr} {t : TT} (h : PW X e t) : PT X e t := h _
noncomputable def PA (X : Cx) (es : List Expr) (t : TA) : Prop :=
 ∀ (pos : Pos) (pins : List (Addr × Obj)) (s : Shared) (σ : St) (H : Hp) (Q : List V → Hp → Prop), Inv X pins σ H s → t σ H Q → wpAny (model X.prog X.w) X.A (spliced (backTo pos (starEach es X.env))) (AP X pins σ Q) X.xe s
noncomputable def PS (X : Cx) (st : Stmt) (t : TS) : Prop :=
 ∀ (pins : List (Addr × Obj)) (s : Shared) (σ : St) (H : Hp) (D : Ends), Inv X pins σ H s → t D σ H → wpAny (model X.prog X.w) X.A (exec st X.env) (SP X pins D) X.xe s
noncomputable def PSs (X : Cx) (st : List Stmt) (t : TS) : Prop :=
 ∀ (pins : List (Addr × Obj)) (s : Shared) (σ : St) (H : Hp) (D : Ends), Inv X pins σ H s → t D σ H → wpAny (model X.prog X.w) X.A (execs st X.env) (SP X pins D) X.xe s
theorem thn {α : Type} {t : Sem α} {Q Q' : α → Shared → Prop} {M : Model} {A : Around} {E : Value → Shared → Prop} {s : Shared} (h : wpAny M A t Q E s) (hQ : ∀ a s, Q a s → Q' a s) : wpAny M A t Q' E s := wpAny_mono h hQ fun _ _ x => x
end L2
namespace L2
open PySem PySem.Spec PyProof.Rows
section
variable {X : Cx}
theorem bin {a b : Expr} {ta tb : TE} (ha : PE X a ta) (hb : PE X b tb) {pins : List (Addr × Obj)} {s : Shared} {σ : St} {H : Hp} {R : V → V → Hp → Prop} (I : Inv X pins σ H s) (h : ta σ H fun x H1 => tb σ H1 fun y H2 => R x y H2)
  {α : Type} {Q : α → Shared → Prop} {f : Value → Value → Sem α}
  (hf : ∀ v u s2 x y H2, Inv X pins σ H2 s2 → RelV x v → RelV y u → R x y H2 → wpAny (model X.prog X.w) X.A (f v u) Q X.xe s2) :
  wpAny (model X.prog X.w) X.A (eval a X.env) (fun v s₁ => wpAny (model X.prog X.w) X.A (eval b X.env) (fun u s₂ => wpAny (model X.prog X.w) X.A (f v u) Q X.xe s₂) X.xe s₁) X.xe s := by
 refine thn (ha pins s σ H _ I h) fun v s1 hX11_ => ?_
 obtain ⟨x, H1, I1, r1, q1⟩ := hX11_
 refine thn (hb pins s1 σ H1 _ I1 q1) fun u s2 hX21_ => ?_
 obtain ⟨y, H2, I2, r2, q2⟩ := hX21_
 exact hf v u s2 x y H2 I2 r1 r2 q2
noncomputable def tVar (i : Nat) : TE := fun σ H Q => ∃ v, σ[i]? = some (some v) ∧ Q v H
noncomputable def tC (v : V) : TE := fun _ H Q => Q v H
theorem pe_var {i : Nat} {x : Str} {pos : Pos} (hN : X.N[i]? = some x) (hv : Vis X.env.scope x) (hd : (x == ("__debug__" : Str)) = false := by decide) (hcd : (x == ("__classdict__" : Str)) = false := by decide) : PE X (.Name x pos) (tVar i) := by
 intro pins s σ H Q I h
 obtain ⟨v, e, h⟩ := h
 obtain ⟨m, hn, hl⟩ := I.loc
 obtain ⟨u, r, l⟩ := hl i x v hN e hv
 have fin : EP X pins σ Q u s := ⟨v, H, I, r, h⟩
 rcases l with ⟨hk, hm⟩ | ⟨hk, c, hc, hcell⟩
 ·exact wpAny_Name (wpAny_loadName_local I.ok.kind hk hn hm fin) hd
 ·rcases hk with hk | hk
  ·exact wpAny_Name (wpAny_loadName_cell I.ok.kind hk hc hcell fin) hd
  ·exact wpAny_Name (wpAny_loadName_free I.ok.kind hk hc hcell fin hcd) hd
theorem pe_int {i j pos} : PE X (.Constant (.int i) j pos) (tC (.int i)) := fun _ _ _ H _ I h => wpAny_Constant_int ⟨.int i, H, I.tok _, ⟨_, rfl⟩, h⟩
theorem pe_bl {b j pos} : PE X (.Constant (.bool b) j pos) (tC (.bl b)) := fun _ _ _ H _ I h => Constant_bool ⟨.bl b, H, I, rfl, h⟩
theorem pe_non {j pos} : PE X (.Constant .none j pos) (tC .non) := fun _ _ _ H _ I h => Constant_none ⟨.non, H, I, rfl, h⟩
noncomputable def Gl (X : Cx) (x : Str) : Prop := X.env.kindOf x = some .globalImplicit
theorem ld_glob {E : Value → Shared → Prop} {pins : List (Addr × Obj)} {s : Shared} {σ : St} {H : Hp} {x : Str} {u : Value} {pos : Pos} {Q : Value → Shared → Prop} (I : Inv X pins σ H s) (hg : Gl X x) (hm : X.mg x = some u) (h : Q u s)
  (hd : (x == ("__debug__" : Str)) = false := by decide) : wpAny (model X.prog X.w) X.A (eval (.Name x pos) X.env) Q E s :=
 Calls.Name_function_global I.ok.kind hg (Calls.loadGlobal_global (by rw [I.ok.glob]; exact I.mod.glob.keeps I.bk) hm h) hd
theorem ld_blt {E : Value → Shared → Prop} {pins : List (Addr × Obj)} {s : Shared} {σ : St} {H : Hp} {x : Str} {u : Value} {pos : Pos} {Q : Value → Shared → Prop} (I : Inv X pins σ H s) (hg : Gl X x) (hm : X.mg x = none) (hv : bootBuiltins x = some u) (h : Q u s)
  (hn : x ≠ "__name__" := by decide) (hd : (x == ("__debug__" : Str)) = false := by decide) : wpAny (model X.prog X.w) X.A (eval (.Name x pos) X.env) Q E s := by
 obtain ⟨mb, h1, h2⟩ := I.mod.blt
 exact Calls.Name_function_global I.ok.kind hg (Calls.loadGlobal_builtin (by rw [I.ok.glob]; exact I.mod.glob.keeps I.bk) hm (by rw [I.ok.blt]; exact h1.keeps I.bk) ((h2 x hn).trans hv) h) hd
theorem pe_bltn {x : Str} {v : V} {u : Value} {pos : Pos} (hg : Gl X x) (hm : X.mg x = none) (hv : bootBuiltins x = some u) (r : RelV v u) (hn : x ≠ "__name__" := by decide) (hd : (x == ("__debug__" : Str)) = false := by decide) : PE X (.Name x pos) (tC v) :=
 fun _ _ _ H _ I h => ld_blt I hg hm hv ⟨v, H, I, r, h⟩ hn hd
variable {a b : Expr} {ta tb : TE} {pos : Pos}
noncomputable def PC (X : Cx) (op : CmpOp) (a b : Expr) (t : TE) : Prop :=
 ∀ (pins : List (Addr × Obj)) (s : Shared) (σ : St) (H : Hp) (Q : VK), Inv X pins σ H s → t σ H Q →
  wpAny (model X.prog X.w) X.A (eval a X.env) (fun v s₁ => wpAny (model X.prog X.w) X.A (eval b X.env) (fun u s₂ => wpAny (model X.prog X.w) X.A (compareOp op v u) (EP X pins σ Q) X.xe s₂) X.xe s₁) X.xe s
theorem nobehind (b : Expr) {op : CmpOp} (h : op ≠ .In) (h2 : op ≠ .NotIn) : behindInMarks op b = false := by
 have e1 : (op == CmpOp.In) = false := by cases op <;> first | rfl | exact absurd rfl h
 have e2 : (op == CmpOp.NotIn) = false := by cases op <;> first | rfl | exact absurd rfl h2
 cases b <;> simp [behindInMarks, e1, e2]
noncomputable def tB (t : TE) : TT := fun σ H Q => t σ H fun x H1 => ∃ c, x = .bl c ∧ Q c H1
theorem pt_cmp {op : CmpOp} {t : TE} (h : PC X op a b t) (h1 : behindInMarks op b = false := by first | exact nobehind _ (by decide) (by decide) | rfl) : PT X (.Compare a [op] [b] pos) (tB t) := by
 intro pins s σ H Q I hw
 refine wpAny_isTrue_Compare1 (thn (h pins s σ H _ I hw) fun v s1 h1 => thn h1 fun u s2 h2 => thn h2 fun c s3 hX11_ => ?_) h1
 obtain ⟨x, H1, I1, r1, q1⟩ := hX11_
 obtain ⟨d, rfl, q⟩ := q1
 cases r1
 exact wpAny_truthy_bool ⟨H1, I1, q⟩
theorem pt_val {e : Expr} {t : TE} (h : PE X e t) (he : ∀ whole, isTrue e X.env whole = (do let v ← whole; standAt e.pos; holding [v] (truthy v)) := by intro _; rfl) : PT X e (tB t) := by
 intro pins s σ H Q I hw
 refine isTrue_plain (thn (h pins s σ H _ I hw) fun v s1 hX11_ => ?_) (he _)
 obtain ⟨x, H1, I1, r1, q1⟩ := hX11_
 obtain ⟨d, rfl, q⟩ := q1
 cases r1
 exact wpAny_truthy_bool ⟨H1, I1, q⟩
variable {tA tB' : TT} {rest : List Expr}
noncomputable def tAnd (t u : TT) : TT := fun σ H Q => t σ H fun c H1 => if c = true then u σ H1 Q else Q false H1
noncomputable def tOr (t u : TT) : TT := fun σ H Q => t σ H fun c H1 => if c = true then Q true H1 else u σ H1 Q
noncomputable def tNot (t : TT) : TT := fun σ H Q => t σ H fun c H1 => Q (!c) H1
theorem pw_and1 (ha : PT X a tA) : PW X (.BoolOp .And [a] pos) tA := by
 intro wh pins s σ H Q I h
 refine isTrue_and (thn (ha pins s σ H Q I h) fun c s1 e => ?_)
 cases c with
 | true => exact isTrue_and_nil e
 | false => exact e
theorem pw_or1 (ha : PT X a tA) : PW X (.BoolOp .Or [a] pos) tA := by
 intro wh pins s σ H Q I h
 refine isTrue_or (thn (ha pins s σ H Q I h) fun c s1 e => ?_)
 cases c with
 | false => exact isTrue_or_nil e
 | true => exact e
theorem pw_and (ha : PT X a tA) (hb : PW X (.BoolOp .And (b :: rest) pos) tB') : PW X (.BoolOp .And (a :: b :: rest) pos) (tAnd tA tB') := by
 intro wh pins s σ H Q I h
 refine isTrue_and (thn (ha pins s σ H _ I h) fun c s1 hX11_ => ?_)
 obtain ⟨H1, I1, q1⟩ := hX11_
 cases c with
 | true => exact hb wh pins s1 σ H1 Q I1 q1
 | false => exact ⟨H1, I1, q1⟩
theorem pw_or (ha : PT X a tA) (hb : PW X (.BoolOp .Or (b :: rest) pos) tB') : PW X (.BoolOp .Or (a :: b :: rest) pos) (tOr tA tB') := by
 intro wh pins s σ H Q I h
 refine isTrue_or (thn (ha pins s σ H _ I h) fun c s1 hX11_ => ?_)
 obtain ⟨H1, I1, q1⟩ := hX11_
 cases c with
 | true => exact ⟨H1, I1, q1⟩
 | false => exact hb wh pins s1 σ H1 Q I1 q1
theorem pt_not (ha : PT X a tA) : PT X (.UnaryOp .Not a pos) (tNot tA) := by
 intro pins s σ H Q I h
 exact isTrue_not (ha pins s σ H (fun c H1 => Q (!c) H1) I h)
end
end L2
namespace L2
open PySem PySem.Spec PyProof.Rows
noncomputable def SqL (K : PySem.W.Frag) (H : Hp) (a : Addr) (xs : List V) : Prop :=
 Rd H a (.lst xs) ∨
  ∃ (o : Obj) (its : Array Value) (n : Nat), K.lookup a = some o ∧ o.cls = .type "list" ∧ o.dict = none ∧ o.data = .seq its n ∧ its.size ≤ sizeLine ∧ Vals xs its.toList
noncomputable def SqT (K : PySem.W.Frag) (H : Hp) (a : Addr) (xs : List V) : Prop :=
 Rd H a (.tup xs) ∨
  ∃ (o : Obj) (its : Array Value) (n : Nat), K.lookup a = some o ∧ o.cls = .type "tuple" ∧ o.data = .seq its n ∧ its.size ≤ sizeLine ∧ Vals xs its.toList
noncomputable def absV : Value → Option V
 | .none => some .non
 | .bool b => some (.bl b)
 | .int i _ => some (.int i)
 | .str x _ => some (.str x)
 | .bytes b _ => some (.byt b)
 | .float b _ => some (.flt b)
 | .ref a => some (.ref a)
 | .type n => some (.ty n)
 | _ => none
theorem RelV.abs {x : V} {u : Value} (r : RelV x u) : absV u = some x := by
 cases x with
 | non => cases r; rfl
 | bl _ => cases r; rfl
 | int _ => obtain ⟨t, rfl⟩ := r; rfl
 | str _ => obtain ⟨t, rfl⟩ := r; rfl
 | byt _ => obtain ⟨t, rfl⟩ := r; rfl
 | flt _ => obtain ⟨t, rfl⟩ := r; rfl
 | ref _ => cases r; rfl
 | ty _ => cases r; rfl
theorem RelV.inj {x y : V} {u : Value} (r : RelV x u) (q : RelV y u) : x = y := Option.some.inj (r.abs.symm.trans q.abs)
theorem Vals.inj : ∀ {xs ys : List V} {us : List Value}, Vals xs us → Vals ys us → xs = ys
 | _, _, _, .nil, .nil => rfl
 | _, _, _, .cons r t, .cons r' t' => by rw [r.inj r', Vals.inj t t']
section
variable {X : Cx} {pins : List (Addr × Obj)} {σ : St} {H : Hp} {s : Shared} {a : Addr} {xs ys : List V}
theorem SqL.of {K : PySem.W.Frag} (h : H a = some (.lst xs)) : SqL K H a xs := .inl (.inl h)
theorem SqT.of {K : PySem.W.Frag} (h : H a = some (.tup xs)) : SqT K H a xs := .inl (.inl h)
theorem Inv.list (I : Inv X pins σ H s) (h : SqL X.K H a xs) : ∃ its : List Value, Vals xs its ∧ PlainL s.heap a its.toArray ∧ xs.length ≤ sizeLine := by
 rcases h with h | ⟨o, its, n, hk, hc, hd, hs, hz, r⟩
 ·obtain ⟨z, its, n, r, e⟩ := h.ok I.hok
  exact ⟨its, r, ⟨_, n, e, rfl, rfl, rfl⟩, z⟩
 ·refine ⟨its.toList, r, ⟨o, n, I.kIn a o hk, hc, hd, by simpa using hs⟩, ?_⟩
  have e := r.length
  simp only [Array.length_toList] at e
  lia
theorem Inv.tuple (I : Inv X pins σ H s) (h : SqT X.K H a xs) : ∃ its : List Value, Vals xs its ∧ IsTup s.heap a its.toArray ∧ xs.length ≤ sizeLine := by
 rcases h with h | ⟨o, its, n, hk, hc, hs, hz, r⟩
 ·obtain ⟨z, its, r, p⟩ := h.ok I.hok
  exact ⟨its, r, p, z⟩
 ·refine ⟨its.toList, r, ⟨o, I.kIn a o hk, hc, n, by simpa using hs⟩, ?_⟩
  have e := r.length
  simp only [Array.length_toList] at e
  lia
theorem Inv.list_inj (I : Inv X pins σ H s) (h : SqL X.K H a xs) (h' : SqL X.K H a ys) : xs = ys := by
 obtain ⟨its, r, ⟨o, n, e, _, _, d⟩, _⟩ := I.list h
 obtain ⟨its', r', ⟨o', n', e', _, _, d'⟩, _⟩ := I.list h'
 rw [e] at e'; cases e'
 rw [d] at d'
 injection d' with d1 _
 have : its = its' := by simpa using congrArg Array.toList d1
 subst this
 exact r.inj r'
theorem Inv.tuple_inj (I : Inv X pins σ H s) (h : SqT X.K H a xs) (h' : SqT X.K H a ys) : xs = ys := by
 obtain ⟨its, r, ⟨o, e, _, n, d⟩, _⟩ := I.tuple h
 obtain ⟨its', r', ⟨o', e', _, n', d'⟩, _⟩ := I.tuple h'
 rw [e] at e'; cases e'
 rw [d] at d'
 injection d' with d1 _
 have : its = its' := by simpa using congrArg Array.toList d1
 subst this
 exact r.inj r'
end
noncomputable abbrev Cx.wish (X : Cx) (E : Value → Shared → Prop) : Cx := { X with xe := E }
noncomputable abbrev Cx.nox (X : Cx) : Cx := X.wish fun _ _ => False
theorem Cx.Ok.wish {X : Cx} (ok : X.Ok) (E : Value → Shared → Prop) : (X.wish E).Ok :=
 ⟨ok.mod, ok.kind, ok.glob, ok.blt, ok.above, ok.inj, ok.has, ok.cab, ok.hd, ok.frames, ok.stk, ok.exf, ok.bs, ok.bsz, ok.noex, ok.exfs, ok.funs, ok.frf⟩
theorem Cx.Ok.unwish {X : Cx} {E : Value → Shared → Prop} (ok : (X.wish E).Ok) : X.Ok :=
 ⟨ok.mod, ok.kind, ok.glob, ok.blt, ok.above, ok.inj, ok.has, ok.cab, ok.hd, ok.frames, ok.stk, ok.exf, ok.bs, ok.bsz, ok.noex, ok.exfs, ok.funs, ok.frf⟩
section
variable {X : Cx} {pins : List (Addr × Obj)} {σ : St} {H : Hp} {s : Shared} {E : Value → Shared → Prop}
theorem Inv.wish (I : Inv X pins σ H s) (E : Value → Shared → Prop) : Inv (X.wish E) pins σ H s := ⟨I.ok.wish E, I.os, I.bare, I.base, I.loc, I.cell, I.free, I.freeC, I.pin, I.hok, I.len⟩
theorem Inv.unwish (I : Inv (X.wish E) pins σ H s) : Inv X pins σ H s := ⟨I.ok.unwish, I.os, I.bare, I.base, I.loc, I.cell, I.free, I.freeC, I.pin, I.hok, I.len⟩
theorem SP.unwish {D : Ends} {f : Flow} {s' : Shared} (h : SP (X.wish E) pins D f s') : SP X pins D f s' := by
 cases f with
 | next => obtain ⟨σ', H', I, q⟩ := h; exact ⟨σ', H', I.unwish, q⟩
 | brk => obtain ⟨σ', H', I, q⟩ := h; exact ⟨σ', H', I.unwish, q⟩
 | cont => obtain ⟨σ', H', I, q⟩ := h; exact ⟨σ', H', I.unwish, q⟩
 | ret u => obtain ⟨v, σ', H', I, r, q⟩ := h; exact ⟨v, σ', H', I.unwish, r, q⟩
theorem PSs.nox {st : List Stmt} {t : TS} (h : PSs X.nox st t) : PSs X st t := fun pins s σ H D I hw =>
 wpAny_mono (h pins s σ H D (I.wish _) hw) (fun _ _ q => q.unwish) fun _ _ z => False.elim z
end
section
variable {X : Cx} {st : Stmt} {rest : List Stmt} {t u : TS} {e : Expr} {te : TE} {pos : Pos}
noncomputable def tNext : TS := fun D σ H => D.nx σ H
noncomputable def tSeq (t u : TS) : TS := fun D σ H => t { D with nx := u D } σ H
theorem pss_nil : PSs X [] tNext := fun _ _ σ H _ I h => wpAny_execs_nil ⟨σ, H, I, h⟩
theorem pss_cons (h1 : PS X st t) (h2 : PSs X rest u) : PSs X (st :: rest) (tSeq t u) := by
 intro pins s σ H D I h
 refine wpAny_execs_cons (thn (h1 pins s σ H { D with nx := u D } I h) fun f s1 q => ?_)
 cases f with
 | next =>
  obtain ⟨σ', H', I', q⟩ := q
  exact h2 pins s1 σ' H' D I' q
 | ret v => exact q
 | brk => exact q
 | cont => exact q
theorem pss_one (h1 : PS X st t) : PSs X [st] t := by
 intro pins s σ H D I h
 refine wpAny_execs_cons (thn (h1 pins s σ H D I h) fun f s1 q => ?_)
 cases f with
 | next => exact wpAny_execs_nil q
 | ret v => exact q
 | brk => exact q
 | cont => exact q
theorem Inv.quiet {pins : List (Addr × Obj)} {σ : St} {H : Hp} {s : Shared} (I : Inv X pins σ H s) : interactive X.env = false := by simp [interactive, I.ok.kind]
noncomputable def tDrop (te : TE) : TS := fun D σ H => te σ H fun _ H1 => D.nx σ H1
theorem ps_expr (he : PE X e te) (hs : swapsWith e none pos.line X.env = pure false := by rfl) : PS X (.Expr e pos) (tDrop te) := by
 intro pins s σ H D I h
 exact wpAny_Expr_any (thn (he pins s σ H _ I h) fun v s1 ⟨x, H1, I1, r1, q1⟩ => ⟨σ, H1, I1, q1⟩) I.quiet hs
noncomputable def tRet (te : TE) : TS := fun D σ H => te σ H D.rt
theorem ps_ret (he : PE X e te) : PS X (.Return (some e) pos) (tRet te) := by
 intro pins s σ H D I h
 exact wpAny_Return_some (thn (he pins s σ H _ I h) fun v s1 ⟨x, H1, I1, r1, q1⟩ => ⟨x, σ, H1, I1, r1, q1⟩)
noncomputable def tIfS (c : TT) (t u : TS) : TS := fun D σ H => c σ H fun b H1 => if b = true then t D σ H1 else u D σ H1
theorem ps_if {c : Expr} {a b : List Stmt} {tc : TT} (hc : PT X c tc) (ha : PSs X a t) (hb : PSs X b u) : PS X (.If c a b pos) (tIfS tc t u) := by
 intro pins s σ H D I h
 refine wpAny_If (thn (hc pins s σ H _ I h) fun d s1 hX11_ => ?_)
 obtain ⟨H1, I1, q1⟩ := hX11_
 cases d with
 | true => exact ha pins s1 σ H1 D I1 q1
 | false => exact hb pins s1 σ H1 D I1 q1
noncomputable def tNever : TS := fun _ _ _ => False
theorem ps_never : PS X st tNever := fun _ _ _ _ _ _ h => h.elim
end
noncomputable abbrev TG := V → St → Hp → (St → Hp → Prop) → Prop
noncomputable abbrev TGs := List V → St → Hp → (St → Hp → Prop) → Prop
noncomputable def PG (X : Cx) (target : Expr) (t : TG) : Prop :=
 ∀ (pins : List (Addr × Obj)) (s : Shared) (σ : St) (H : Hp) (v : V) (u : Value) (Q : St → Hp → Prop), Inv X pins σ H s → RelV v u → t v σ H Q →
  wpAny (model X.prog X.w) X.A (assign target X.env u) (fun _ s' => ∃ σ' H', Inv X pins σ' H' s' ∧ Q σ' H') X.xe s
noncomputable def PGs (X : Cx) (ts : List Expr) (t : TGs) : Prop :=
 ∀ (pins : List (Addr × Obj)) (s : Shared) (σ : St) (H : Hp) (vs : List V) (us : List Value) (Q : St → Hp → Prop), Inv X pins σ H s → Vals vs us → t vs σ H Q →
  wpAny (model X.prog X.w) X.A (assignInOrder ((assignEach ts X.env).map (·.2)) us) (fun _ s' => ∃ σ' H', Inv X pins σ' H' s' ∧ Q σ' H') X.xe s
noncomputable abbrev TSet := V → V → V → Hp → (Hp → Prop) → Prop
noncomputable def PSet (X : Cx) (t : TSet) : Prop :=
 ∀ (pins : List (Addr × Obj)) (s : Shared) (σ : St) (H : Hp) (o i v : V) (ov iv u : Value) (Q : Hp → Prop), Inv X pins σ H s → RelV o ov → RelV i iv → RelV v u → t o i v H Q →
  wpAny (model X.prog X.w) X.A (setItem ov iv u) (fun _ s' => ∃ H', Inv X pins σ H' s' ∧ Q H') X.xe s
section
variable {X : Cx} {pos : Pos}
noncomputable def gName (i : Nat) : TG := fun v σ H Q => Q (σ.set i (some v)) H
theorem pg_name {i : Nat} {x : Str} (hN : X.N.Nodup) (hi : X.N[i]? = some x) (hx : Loc X.env.scope x) (hf : X.fn x = true ∨ X.env.scope.names.lookup x = some .local := by first | exact .inl rfl | exact .inr rfl | assumption) : PG X (.Name x pos) (gName i) := by
 intro pins s σ H v u Q I r h
 exact wpAny_assign_Name (store_ok I hN hi hx r (fun s' I' => ⟨_, H, I', h⟩) hf)
noncomputable def gNil : TGs := fun vs σ H Q => vs = [] ∧ Q σ H
noncomputable def gCons (t : TG) (u : TGs) : TGs := fun vs σ H Q => ∃ v r, vs = v :: r ∧ t v σ H fun σ' H' => u r σ' H' Q
theorem pgs_nil : PGs X [] gNil := by
 intro pins s σ H vs us Q I r h
 obtain ⟨e, h⟩ := h
 subst e
 cases r
 exact assignInOrder_nil ⟨σ, H, I, h⟩
theorem pgs_cons {e : Expr} {es : List Expr} {t : TG} {u : TGs} (h1 : PG X e t) (h2 : PGs X es u)
  (hs : (assignEach (e :: es) X.env).map (·.2) = assign e X.env :: (assignEach es X.env).map (·.2) := by rfl) : PGs X (e :: es) (gCons t u) := by
 intro pins s σ H vs us Q I r h
 obtain ⟨v, vr, e1, h⟩ := h
 subst e1
 cases r with
 | cons r rr =>
  rw [hs]
  refine assignInOrder_cons (thn (h1 pins s σ H _ _ _ I r h) fun _ s1 hX11_ => ?_)
  obtain ⟨σ1, H1, I1, q1⟩ := hX11_
  exact h2 pins s1 σ1 H1 _ _ Q I1 rr q1
noncomputable def gTup (K : PySem.W.Frag) (n : Nat) (t : TGs) : TG := fun v σ H Q => ∃ a xs, v = .ref a ∧ SqT K H a xs ∧ xs.length = n ∧ t xs σ H Q
theorem pg_tup {es : List Expr} {k : Nat} {t : TGs} {n : Nat} (hc : X.calm = true) (h : PGs X es t)
  (hn : (assignEach es X.env).length = n := by rfl) (hst : (assignEach es X.env).findIdx? (·.1) = none := by rfl) : PG X (.Tuple es k pos) (gTup X.K n t) := by
 intro pins s σ H v u Q I r hw
 obtain ⟨a, xs, e1, hq, hl, hw⟩ := hw
 subst e1
 cases r
 obtain ⟨its, rv, ht, hz⟩ := I.tuple hq
 refine assign_Tuple_tuple (I.ok.hd hc) ht (by simp [hn, ← hl, rv.length]) hst fun h' hx => ?_
 have I1 : Inv X pins σ H { s with heap := h' } := I.kept (t' := s.toks) fun b o e => hx b o (Nat.ne_of_lt (Heap.lt_size e)) e
 exact h pins _ σ H xs _ Q I1 (by simpa using rv) hw
noncomputable def gSub (to ti : TE) (t : TSet) : TG := fun v σ H Q => to σ H fun o H1 => ti σ H1 fun i H2 => t o i v H2 fun H3 => Q σ H3
theorem pg_sub {o i : Expr} {to ti : TE} {t : TSet} (ho : PE X o to) (hi : PE X i ti) (hs : PSet X t)
  (ha : ∀ v, assign (.Subscript o i pos) X.env v = (do
   let ov ← holding [v] (eval o X.env)
   let iv ← holding [v, ov] (eval i X.env)
   standAt pos
   holding [v, ov, iv] (setItem ov iv v)
   release [v, ov, iv] []) := by intro _; rfl) : PG X (.Subscript o i pos) (gSub to ti t) := by
 intro pins s σ H v u Q I r h
 rw [ha]
 refine wpAny_bind (wpAny_holding (thn (ho pins s σ H _ I h) fun ov s1 hX11_ => ?_))
 obtain ⟨x, H1, I1, r1, q1⟩ := hX11_
 refine wpAny_bind (wpAny_holding (thn (hi pins s1 σ H1 _ I1 q1) fun iv s2 hX21_ => ?_))
 obtain ⟨y, H2, I2, r2, q2⟩ := hX21_
 refine wpAny_bind (wpAny_standAt (wpAny_bind (wpAny_holding (thn (hs pins s2 σ H2 x y v ov iv u _ I2 r1 r2 r q2) fun _ s3 hX31_ => ?_))))
 obtain ⟨H3, I3, q3⟩ := hX31_
 exact wpAny_release ⟨σ, H3, I3, q3⟩
noncomputable def tAsg (te : TE) (g : TG) : TS := fun D σ H => te σ H fun x H1 => g x σ H1 D.nx
theorem ps_asg {tg e : Expr} {te : TE} {g : TG} (he : PE X e te) (hg : PG X tg g) (hs : swapsWithSole [tg] e pos.line X.env = pure false := by rfl) (hw : swappedStores [tg] e X.env = pure none := by rfl)
  (h1 : (assignEach [tg] X.env).map (·.2) = [assign tg X.env] := by rfl) : PS X (.Assign [tg] e pos) (tAsg te g) := by
 intro pins s σ H D I h
 refine wpAny_Assign_stores (thn (he pins s σ H _ I h) fun v s1 hX11_ => ?_) hs hw
 obtain ⟨x, H1, I1, r1, q1⟩ := hX11_
 rw [h1]
 exact thn (hg pins s1 σ H1 x v _ I1 r1 q1) fun _ s2 q => q
theorem ps_set {i : Nat} {x : Str} {e : Expr} {te : TE} {pos' : Pos} (hN : X.N.Nodup) (hi : X.N[i]? = some x) (hx : Loc X.env.scope x) (he : PE X e te) (hs : swapsWith e (some (.Name x pos')) pos.line X.env = pure false := by rfl) (hf : X.fn x = true ∨ X.env.scope.names.lookup x = some .local := by first | exact .inl rfl | exact .inr rfl | assumption) :
  PS X (.Assign [.Name x pos'] e pos) (tAsg te (gName i)) := by
 intro pins s σ H D I h
 refine wpAny_Assign_Name (thn (he pins s σ H _ I h) fun v s1 hX11_ => ?_) hs
 obtain ⟨y, H1, I1, r1, q1⟩ := hX11_
 exact store_ok I1 hN hi hx r1 (fun s2 I2 => ⟨_, H1, I2, q1⟩) hf
end
section
variable {X : Cx} {pos : Pos}
noncomputable def tWhile (c : TT) (tb : TS) : TS := fun D σ H => ∃ W : Nat → St → Hp → Prop, (∃ m, W m σ H) ∧ ∀ m σ H, W m σ H →
 c σ H fun b H1 => if b = true then ∃ N : St → Hp → Prop, (∀ σ' H', N σ' H' → ∃ m', m' < m ∧ W m' σ' H') ∧ tb { D with nx := N, ct := N, bk := D.nx } σ H1 else D.nx σ H1
theorem ps_while {c : Expr} {body : List Stmt} {tc : TT} {tb : TS} (hp : PassesOwn (model X.prog X.w) X.A X.env X.xe) (hc : PT X c tc) (hb : PSs X body tb) : PS X (.While c body [] pos) (tWhile tc tb) := by
 intro pins s σ H D I h
 obtain ⟨W, ⟨m0, w0⟩, turn⟩ := h
 refine wpAny_While (codeAny_whileLoop (fun n s' => ∃ σ' H', Inv X pins σ' H' s' ∧ W n σ' H') ?_ m0 ⟨σ, H, I, w0⟩)
 rintro n s1 ⟨σ1, H1, I1, w1⟩
 refine wpAny_passesOwn hp (thn (hc pins s1 σ1 H1 _ I1 (turn n σ1 H1 w1)) fun b s2 hX11_ => ?_)
 obtain ⟨H2, I2, q2⟩ := hX11_
 cases b with
 | true =>
  obtain ⟨N, hN, q2⟩ := q2
  rw [if_pos rfl]
  refine wpAny_passesOwn hp (thn (hb pins s2 σ1 H2 _ I2 q2) fun f s3 q3 => ?_)
  cases f with
  | next =>
   obtain ⟨σ3, H3, I3, n3⟩ := q3
   obtain ⟨m', hm, w3⟩ := hN σ3 H3 n3
   exact ⟨m', hm, σ3, H3, I3, w3⟩
  | cont =>
   obtain ⟨σ3, H3, I3, n3⟩ := q3
   obtain ⟨m', hm, w3⟩ := hN σ3 H3 n3
   exact ⟨m', hm, σ3, H3, I3, w3⟩
  | brk => exact q3
  | ret v => exact q3
 | false =>
  rw [if_neg Bool.false_ne_true]
  exact wpAny_execs_nil ⟨σ1, H2, I2, q2⟩
end
structure It where
 go : Nat → Hp → Prop
 yld : Nat → Hp → V → Hp → Prop
 stop : Nat → Hp → Prop
noncomputable def FpOk (X : Cx) (pins : List (Addr × Obj)) (H : Hp) (b : Addr) : Prop :=
 H b = none ∧ b ≠ X.env.locals ∧ b ∉ X.fs ∧ (b ∈ X.ex ∨ X.s₀.heap.objs.size ≤ b) ∧ (∀ x c, X.env.cells.lookup x = some c → c ≠ b) ∧ ∀ p ∈ X.pn ++ pins, p.1 ≠ b
theorem Inv.fpOk {X : Cx} {pins : List (Addr × Obj)} {σ : St} {H H' : Hp} {s : Shared} {b : Addr} (I : Inv X pins σ H s) (hb : s.heap.objs.size ≤ b) (hn : H' b = none) : FpOk X pins H' b := by
 refine ⟨hn, Nat.ne_of_gt (Nat.lt_of_lt_of_le I.lt hb), I.nofs hb, .inr (Nat.le_trans I.sz hb), fun x c e z => ?_, fun p hp z => ?_⟩
 ·obtain ⟨v, q⟩ := I.cell x c e
  exact absurd (Nat.lt_of_lt_of_le q.lt (by rw [z]; exact hb)) (Nat.lt_irrefl _)
 ·exact absurd (Nat.lt_of_lt_of_le (Heap.lt_size (I.pin p hp).1) (by rw [z]; exact hb)) (Nat.lt_irrefl _)
structure Turn (P : Program) (w : World) (K : PySem.W.Frag) (tg : Expr) (J : It) (fp : List Addr) (it : Addr) (tn : Nat → Heap → Prop) : Prop where
 mem : it ∈ fp
 obj : ∀ i h, tn i h → ∀ b ∈ fp, ∃ o, h.get? b = some o ∧ ∀ v, o.data ≠ .cell v
 keep : ∀ i h h', tn i h → (∀ b ∈ fp, ∀ o, h.get? b = some o → h'.get? b = some o) → tn i h'
 item : ∀ (X : Cx), X.prog = P → X.w = w → X.K = K → X.calm = true → ∀ (i : Nat) (pins : List (Addr × Obj)) (s : Shared) (σ : St) (H : Hp) (E : Value → Shared → Prop), Inv X pins σ H s → (∀ b ∈ fp, FpOk X pins H b) → tn i s.heap → J.go i H →
  wpAny (model P w) X.A (pyNext (.ref it)) (fun r s1 => ∃ u, r = some u ∧
   wpAny (model P w) X.A (letOwnedTupleGo tg (.ref it) u) (fun _ s2 => ∃ x H', Inv X pins σ H' s2 ∧ RelV x u ∧ J.yld i H x H' ∧ tn (i + 1) s2.heap ∧ ∀ b ∈ fp, H' b = none) E s1) E s
 done : ∀ (X : Cx), X.prog = P → X.w = w → X.K = K → X.calm = true → ∀ (i : Nat) (pins : List (Addr × Obj)) (s : Shared) (σ : St) (H : Hp) (E : Value → Shared → Prop), Inv X pins σ H s → (∀ b ∈ fp, FpOk X pins H b) → tn i s.heap → J.stop i H →
  wpAny (model P w) X.A (pyNext (.ref it)) (fun r s1 => r = none ∧ Inv X pins σ H s1) E s
 self : ∀ (A : Around) (i : Nat) (s : Shared) (Q : Value → Shared → Prop) (E : Value → Shared → Prop), tn i s.heap → Q (.ref it) s → wpAny (model P w) A (pyIter (.ref it)) Q E s
noncomputable abbrev TI := St → Hp → (It → Hp → Prop) → Prop
noncomputable def PIE (X : Cx) (pins : List (Addr × Obj)) (σ : St) (tg : Expr) (R : It → Hp → Prop) (itv : Value) (s2 : Shared) : Prop :=
 ∃ (it : Addr) (fp : List Addr) (tn : Nat → Heap → Prop) (J : It) (H' : Hp), itv = .ref it ∧ Inv X pins σ H' s2 ∧ Turn X.prog X.w X.K tg J fp it tn ∧ tn 0 s2.heap ∧ (∀ b ∈ fp, FpOk X pins H' b) ∧ R J H'
noncomputable def PI (X : Cx) (tg iter : Expr) (wi : TI) : Prop :=
 ∀ (pins : List (Addr × Obj)) (s : Shared) (σ : St) (H : Hp) (R : It → Hp → Prop), Inv X pins σ H s → wi σ H R →
  wpAny (model X.prog X.w) X.A (eval iter X.env) (fun v s1 => wpAny (model X.prog X.w) X.A (pyIter v) (PIE X pins σ tg R) X.xe s1) X.xe s
theorem go_of {M : Model} {A : Around} {E : Value → Shared → Prop} {s : Shared} {tg : Expr} {it : Addr} {u : Value} {o : Obj} {n : String} {vs : Array Value} {Q : Unit → Shared → Prop} (ho : s.heap.get? it = some o) (hc : o.cls = .type n) (hd : o.data = .fields vs)
    (hn : ["enumerate", "zip", "dict_itemiterator", "dict_reverseitemiterator", "odict_iterator", "itertools.zip_longest", "itertools.pairwise"].contains n = false) (hQ : Q () s) : wpAny M A (letOwnedTupleGo tg (.ref it) u) Q E s := by
  unfold letOwnedTupleGo
  cases tg <;> first
    | exact wpAny_pure hQ
    | (cases u <;> first
        | exact wpAny_pure hQ
        | (refine wpAny_bind (wpAny_load ho ?_)
           rw [hc, hd]
           show wpAny M A (if (["enumerate", "zip", "dict_itemiterator", "dict_reverseitemiterator", "odict_iterator", "itertools.zip_longest", "itertools.pairwise"].contains n && vs[0]? == some (rawInt _)) = true then _ else _) Q E s
           rw [if_neg (by intro h; rw [hn, Bool.false_and] at h; cases h)]
           exact wpAny_pure hQ))
noncomputable def Itl (K : PySem.W.Frag) (a : Addr) : It :=
 ⟨fun i H => ∃ xs x, SqL K H a xs ∧ xs[i]? = some x, fun i H x H' => H' = H ∧ ∀ xs, SqL K H a xs → xs[i]? = some x, fun i H => ∃ xs, SqL K H a xs ∧ xs.length ≤ i⟩
noncomputable def Itt (K : PySem.W.Frag) (a : Addr) : It :=
 ⟨fun i H => ∃ xs x, SqT K H a xs ∧ xs[i]? = some x, fun i H x H' => H' = H ∧ ∀ xs, SqT K H a xs → xs[i]? = some x, fun i H => ∃ xs, SqT K H a xs ∧ xs.length ≤ i⟩
noncomputable def Itr (lo : Int) (n : Nat) : It := ⟨fun i _ => i < n, fun i H x H' => H' = H ∧ x = .int (lo + i), fun i _ => n ≤ i⟩
theorem turn_list {P : Program} {w : World} {K : PySem.W.Frag} {tg : Expr} (a it : Addr) : Turn P w K tg (Itl K a) [it] it (fun i h => h.IsListIter it a i) where
 mem := by simp
 obj := fun i h st b hb => by
  have e : b = it := by simpa using hb
  subst e
  obtain ⟨o, e, c, d⟩ := st
  exact ⟨o, e, fun v z => by rw [d] at z; cases z⟩
 keep := fun i h h' st k => st.at fun o e => k it (by simp) o e
 item := by
  intro X hP hw hK hc i pins s σ H E I hf st hg
  subst hP hw hK
  obtain ⟨xs, x, hq, hx⟩ := hg
  obtain ⟨its, rv, p, hz⟩ := I.list hq
  obtain ⟨u, hu, ru⟩ := rv.get hx
  obtain ⟨f0, f1, f2, f3, f4, f5⟩ := hf it (by simp)
  refine wpAny_pyNext_list_item st p.isList (x := u) (by simpa using hu) fun h' st' sb => ?_
  have I1 : Inv X pins σ H { s with heap := h' } := I.turned (t' := s.toks) (fun b o hb e => (sb.2 b hb).trans e) f0 f1 f3 f4 f5
  obtain ⟨o, e, c, d⟩ := id st'
  exact ⟨u, rfl, go_of (s := { s with heap := h' }) e c d (by decide) ⟨x, H, I1, ru, ⟨rfl, fun ys hy => by rw [I.list_inj hy hq]; exact hx⟩, st', fun b hb => (hf b hb).1⟩⟩
 done := by
  intro X hP hw hK hc i pins s σ H E I hf st hg
  subst hP hw hK
  obtain ⟨xs, hq, hx⟩ := hg
  obtain ⟨its, rv, p, hz⟩ := I.list hq
  obtain ⟨f0, f1, f2, f3, f4, f5⟩ := hf it (by simp)
  have hl := rv.length
  exact wpAny_pyNext_list_end (I.ok.hd hc) st p.isList (by simp; lia) fun h' eb => ⟨rfl, I.turned (t' := s.toks) (fun b o hb e => eb b o hb e) f0 f1 f3 f4 f5⟩
 self := fun _ _ _ _ _ st h => wpAny_pyIter_listiter st h
theorem turn_tuple {P : Program} {w : World} {K : PySem.W.Frag} {tg : Expr} (a it : Addr) : Turn P w K tg (Itt K a) [it] it (fun i h => h.IsTupleIter it a i) where
 mem := by simp
 obj := fun i h st b hb => by
  have e : b = it := by simpa using hb
  subst e
  obtain ⟨o, e, c, d⟩ := st
  exact ⟨o, e, fun v z => by rw [d] at z; cases z⟩
 keep := fun i h h' st k => st.at fun o e => k it (by simp) o e
 item := by
  intro X hP hw hK hc i pins s σ H E I hf st hg
  subst hP hw hK
  obtain ⟨xs, x, hq, hx⟩ := hg
  obtain ⟨its, rv, p, hz⟩ := I.tuple hq
  obtain ⟨u, hu, ru⟩ := rv.get hx
  obtain ⟨f0, f1, f2, f3, f4, f5⟩ := hf it (by simp)
  refine wpAny_pyNext_tuple_item st (show s.heap.IsTuple a its.toArray from p) (x := u) (by simpa using hu) fun h' st' sb => ?_
  have I1 : Inv X pins σ H { s with heap := h' } := I.turned (t' := s.toks) (fun b o hb e => (sb.2 b hb).trans e) f0 f1 f3 f4 f5
  obtain ⟨o, e, c, d⟩ := id st'
  exact ⟨u, rfl, go_of (s := { s with heap := h' }) e c d (by decide) ⟨x, H, I1, ru, ⟨rfl, fun ys hy => by rw [I.tuple_inj hy hq]; exact hx⟩, st', fun b hb => (hf b hb).1⟩⟩
 done := by
  intro X hP hw hK hc i pins s σ H E I hf st hg
  subst hP hw hK
  obtain ⟨xs, hq, hx⟩ := hg
  obtain ⟨its, rv, p, hz⟩ := I.tuple hq
  obtain ⟨f0, f1, f2, f3, f4, f5⟩ := hf it (by simp)
  have hl := rv.length
  exact wpAny_pyNext_tuple_end (I.ok.hd hc) st (show s.heap.IsTuple a its.toArray from p) (by simp; lia) fun h' eb => ⟨rfl, I.turned (t' := s.toks) (fun b o hb e => eb b o hb e) f0 f1 f3 f4 f5⟩
 self := fun _ _ _ _ _ st h => wpAny_pyIter_tupleiter st h
theorem turn_range {P : Program} {w : World} {K : PySem.W.Frag} {tg : Expr} (it : Addr) (lo : Int) (n : Nat) : Turn P w K tg (Itr lo n) [it] it (fun i h => IsRangeIter h it (lo + (i : Nat) * 1) ((n : Int) - (i : Nat)) 1) where
 mem := by simp
 obj := fun i h st b hb => by
  have e : b = it := by simpa using hb
  subst e
  exact ⟨_, st, fun v z => by
   have z' : Data.fields _ = Data.cell v := z
   cases z'⟩
 keep := fun i h h' st k => k it (by simp) _ st
 item := by
  intro X hP hw hK hc i pins s σ H E I hf st hg
  subst hP hw hK
  obtain ⟨f0, f1, f2, f3, f4, f5⟩ := hf it (by simp)
  have W := Walks.range (prog := X.prog) (w := X.w) (I.ok.hd hc) it lo 1 n
  refine W.item i s _ _ hg st fun v h' tk hv st' kk => ?_
  obtain ⟨t, rfl⟩ := hv
  have I1 : Inv X pins σ H { s with heap := h', toks := tk } := I.turned (fun b o hb e => kk b o (by simpa using hb) e) f0 f1 f3 f4 f5
  refine ⟨_, rfl, go_of (s := { s with heap := h', toks := tk }) (n := "range_iterator") st' rfl rfl (by decide) ⟨.int (lo + i), H, I1, ⟨t, ?_⟩, ⟨rfl, rfl⟩, st', fun b hb => (hf b hb).1⟩⟩
  rw [Int.mul_one]
 done := by
  intro X hP hw hK hc i pins s σ H E I hf st hg
  subst hP hw hK
  obtain ⟨f0, f1, f2, f3, f4, f5⟩ := hf it (by simp)
  exact wpAny_pyNext_range_end (I.ok.hd hc) st (by have : n ≤ i := hg; lia) fun h' eb => ⟨rfl, I.turned (t' := s.toks) (fun b o hb e => eb b o hb e) f0 f1 f3 f4 f5⟩
 self := fun _ _ _ _ _ st h => wpAny_pyIter_rangeiter st h
end L2
namespace L2
open PySem PySem.Spec PyProof.Rows
section
variable {X : Cx} {tg : Expr}
noncomputable def iList (K : PySem.W.Frag) (tl : TE) : TI := fun σ H R => tl σ H fun x H1 => ∃ a, x = .ref a ∧ (∃ xs, SqL K H1 a xs) ∧ R (Itl K a) H1
theorem pi_list {l : Expr} {tl : TE} (hl : PE X l tl) : PI X tg l (iList X.K tl) := by
 intro pins s σ H R I h
 refine thn (hl pins s σ H _ I h) fun v s1 hX11_ => ?_
 obtain ⟨x, H1, I1, r1, q1⟩ := hX11_
 obtain ⟨a, e, ⟨xs, hq⟩, q⟩ := q1
 subst e
 cases r1
 obtain ⟨its, rv, p, hz⟩ := I1.list hq
 refine wpAny_pyIter_list p.isList ?_
 refine ⟨s1.heap.objs.size, [s1.heap.objs.size], _, _, H1, rfl, I1.kept (t' := s1.toks) fun b o e => Heap.get?_push_of_some _ e, turn_list a _, ⟨_, Heap.get?_push_size _ rfl, rfl, rfl⟩, fun b hb => ?_, q⟩
 have e : b = s1.heap.objs.size := by simpa using hb
 subst e
 exact I1.fpOk (Nat.le_refl _) (I1.hok.fresh (Nat.le_refl _))
theorem range_it {pins : List (Addr × Obj)} {σ : St} {H : Hp} {s : Shared} {R : It → Hp → Prop} {E : Value → Shared → Prop} {lo hi : Int} {t u v : Tok} {tk : Nat} (I : Inv X pins σ H s) (h1 : -(2 ^ 62) ≤ lo) (h2 : lo < 2 ^ 62) (h3 : -(2 ^ 62) ≤ hi) (h4 : hi < 2 ^ 62)
  (q : R (Itr lo (hi - lo).toNat) H) : wpAny (model X.prog X.w) X.A (pyIter (.ref s.heap.objs.size)) (PIE X pins σ tg R) E { s with heap := s.heap.push { cls := .type "range", data := .fields #[.int lo t, .int hi u, .int 1 v] }, toks := tk } := by
 refine wpAny_pyIter_range (IsRange.new ..) (small_one h1 h2 h3 h4) ?_
 have I1 : Inv X pins σ H { s with heap := s.heap.push { cls := .type "range", data := .fields #[.int lo t, .int hi u, .int 1 v] }, toks := tk } := I.kept fun b o e => Heap.get?_push_of_some _ e
 refine ⟨(s.heap.push { cls := .type "range", data := .fields #[.int lo t, .int hi u, .int 1 v] }).objs.size, [(s.heap.push { cls := .type "range", data := .fields #[.int lo t, .int hi u, .int 1 v] }).objs.size], _, _, H, rfl,
  I1.kept (t' := tk) fun b o e => Heap.get?_push_of_some _ e, turn_range _ lo (hi - lo).toNat, ?_, fun b hb => ?_, q⟩
 ·have e1 : lo + ((0 : Nat) : Int) * 1 = lo := by simp
  have e2 : (((hi - lo).toNat : Nat) : Int) - ((0 : Nat) : Int) = Builtin.Range.rangeSize lo hi 1 := by rw [rangeSize_one]; split <;> lia
  show IsRangeIter _ _ (lo + ((0 : Nat) : Int) * 1) ((((hi - lo).toNat : Nat) : Int) - ((0 : Nat) : Int)) 1
  rw [e1, e2]
  exact Heap.get?_push_size _ rfl
 ·have e : b = (s.heap.push { cls := .type "range", data := .fields #[.int lo t, .int hi u, .int 1 v] }).objs.size := by simpa using hb
  subst e
  exact I1.fpOk (Nat.le_refl _) (I1.hok.fresh (Nat.le_refl _))
noncomputable def iRng1 (ta : TA) : TI := fun σ H R => ta σ H fun vs H1 => ∃ j : Int, vs = [.int j] ∧ -(2 ^ 62) ≤ j ∧ j < 2 ^ 62 ∧ R (Itr 0 j.toNat) H1
theorem pi_range1 {a : Expr} {ta : TA} {p pos : Pos} (hg : Gl X "range") (hm : X.mg "range" = none) (ha : PA X [a] ta) (hs : starEach [a] X.env = [(false, eval a X.env)] := by rfl) : PI X tg (.Call (.Name "range" p) [a] [] pos) (iRng1 ta) := by
 intro pins s σ H R I h
 refine Call_ (ld_blt I hg hm boot_range (PyProof.Rows.callWith_type1 (thn (ha pos pins s σ H _ I h) fun us s1 hX11_ => ?_) hs rfl))
 obtain ⟨vs, H1, I1, r1, q1⟩ := hX11_
 obtain ⟨j, e, q1, q2, q⟩ := q1
 subst e
 cases r1 with
 | cons r rr =>
  cases rr
  obtain ⟨t, rfl⟩ := r
  exact call_range_1 (range_it I1 (by lia) (by lia) q1 q2 (by simpa using q))
noncomputable def tFor (wi : TI) (g : TG) (tb : TS) : TS := fun D σ H => wi σ H fun J H1 => ∃ W : Nat → Nat → St → Hp → Prop, (∃ m, W 0 m σ H1) ∧ ∀ i m σ H, W i m σ H →
 (J.stop i H ∧ D.nx σ H) ∨ (J.go i H ∧ ∃ N : St → Hp → Prop, (∀ σ' H', N σ' H' → ∃ m', m' < m ∧ W (i + 1) m' σ' H') ∧ ∀ x H', J.yld i H x H' → g x σ H' fun σ2 H2 => tb { D with nx := N, ct := N, bk := D.nx } σ2 H2)
noncomputable def pinsAt (fp : List Addr) (h : Heap) : List (Addr × Obj) := fp.filterMap fun b => (h.get? b).map fun o => (b, o)
theorem mem_pinsAt {fp : List Addr} {h : Heap} {b : Addr} {o : Obj} (hb : b ∈ fp) (e : h.get? b = some o) : (b, o) ∈ pinsAt fp h := List.mem_filterMap.mpr ⟨b, hb, by rw [e]; rfl⟩
theorem of_pinsAt {fp : List Addr} {h : Heap} {p : Addr × Obj} (hp : p ∈ pinsAt fp h) : p.1 ∈ fp ∧ h.get? p.1 = some p.2 := by
 obtain ⟨b, hb, e⟩ := List.mem_filterMap.mp hp
 cases q : h.get? b with
 | none => rw [q] at e; cases e
 | some o =>
  rw [q] at e
  have e' : (b, o) = p := Option.some.inj e
  subst e'
  exact ⟨hb, q⟩
theorem Inv.pinned {pins : List (Addr × Obj)} {σ : St} {H : Hp} {s : Shared} {fp : List Addr} (I : Inv X pins σ H s) (hf : ∀ b ∈ fp, FpOk X pins H b) (ho : ∀ b ∈ fp, ∃ o, s.heap.get? b = some o ∧ ∀ v, o.data ≠ .cell v) : Inv X (pins ++ pinsAt fp s.heap) σ H s :=
 I.pins_of fun p hp => (List.mem_append.mp hp).elim (fun z => I.pin p (List.mem_append_right _ z)) fun z => by
  obtain ⟨hb, e⟩ := of_pinsAt z
  obtain ⟨f0, f1, f2, _⟩ := hf p.1 hb
  obtain ⟨o, e', d⟩ := ho p.1 hb
  rw [e] at e'; cases e'
  exact ⟨e, f0, f1, f2, d⟩
theorem Inv.unpinned {pins pl : List (Addr × Obj)} {σ : St} {H : Hp} {s : Shared} (I : Inv X (pins ++ pl) σ H s) : Inv X pins σ H s := I.pins_of fun p hp => I.pin p (List.mem_append_right _ (List.mem_append_left _ hp))
theorem ps_for {iter : Expr} {body : List Stmt} {wi : TI} {g : TG} {tb : TS} {pos : Pos} (hp : PassesOwn (model X.prog X.w) X.A X.env X.xe) (hc : X.calm = true) (hi : PI X tg iter wi) (hg : PG X tg g) (hb : PSs X body tb)
  (hs : ∀ x, foldedSetIterable iter X.env x = pure x := by intro _; rfl) : PS X (.For tg iter body [] pos) (tFor wi g tb) := by
 intro pins s σ H D I h
 refine wpAny_For (thn (hi pins s σ H _ I h) fun v s1 h1 => thn h1 fun itv s2 h2 => ?_) hs
 obtain ⟨it, fp, tn, J, H2, e, I2, T, st2, f2, W, ⟨m0, w0⟩, turn⟩ := h2
 subst e
 have stat : ∀ {H' : Hp}, (∀ b ∈ fp, H' b = none) → ∀ b ∈ fp, FpOk X pins H' b := fun hn b hb => ⟨hn b hb, (f2 b hb).2⟩
 refine codeAny_forLoop_any (fun n s' => ∃ i σ' H', Inv X pins σ' H' s' ∧ tn i s'.heap ∧ (∀ b ∈ fp, H' b = none) ∧ W i n σ' H') ?_ m0 ⟨0, σ, H2, I2, st2, fun b hb => (f2 b hb).1, w0⟩
 rintro n s3 ⟨i, σ3, H3, I3, st3, fr3, w3⟩
 rcases turn i n σ3 H3 w3 with ⟨stop, qn⟩ | ⟨go, N, hN, step⟩
 ·refine wpAny_passesOwn hp (thn (T.done X rfl rfl rfl hc i pins s3 σ3 H3 X.xe I3 (stat fr3) st3 stop) fun r s4 ⟨hr, I4⟩ => ?_)
  subst hr
  exact wpAny_execs_nil ⟨σ3, H3, I4, qn⟩
 ·refine wpAny_passesOwn hp (thn (T.item X rfl rfl rfl hc i pins s3 σ3 H3 X.xe I3 (stat fr3) st3 go) fun r s4 ⟨u, hr, h4⟩ => ?_)
  subst hr
  refine wpAny_passesOwn hp (thn h4 fun _ s5 hX11_ => ?_)
  obtain ⟨x, H5, I5, r5, y5, st5, fr5⟩ := hX11_
  have I5' := I5.pinned (stat fr5) (T.obj _ _ st5)
  refine wpAny_passesOwn hp (thn (hg _ s5 σ3 H5 x u _ I5' r5 (step x H5 y5)) fun _ s6 hX21_ => ?_)
  obtain ⟨σ6, H6, I6, q6⟩ := hX21_
  refine wpAny_passesOwn hp (thn (hb _ s6 σ6 H6 _ I6 q6) fun f s7 q7 => ?_)
  have again : ∀ {σ7 : St} {H7 : Hp}, Inv X (pins ++ pinsAt fp s5.heap) σ7 H7 s7 → N σ7 H7 → ∃ m, m < n ∧ ∃ i σ' H', Inv X pins σ' H' s7 ∧ tn i s7.heap ∧ (∀ b ∈ fp, H' b = none) ∧ W i m σ' H' := fun {σ7 H7} I7 n7 => by
   obtain ⟨m', hm, w7⟩ := hN σ7 H7 n7
   refine ⟨m', hm, i + 1, σ7, H7, I7.unpinned, T.keep _ _ _ st5 fun b hb o e => (I7.pin (b, o) (List.mem_append_right _ (List.mem_append_right _ (mem_pinsAt hb e)))).1, fun b hb => ?_, w7⟩
   obtain ⟨o, e, d⟩ := T.obj _ _ st5 b hb
   exact (I7.pin (b, o) (List.mem_append_right _ (List.mem_append_right _ (mem_pinsAt hb e)))).2.1
  cases f with
  | next => obtain ⟨σ7, H7, I7, n7⟩ := q7; exact again I7 n7
  | cont => obtain ⟨σ7, H7, I7, n7⟩ := q7; exact again I7 n7
  | brk => obtain ⟨σ7, H7, I7, q7⟩ := q7; exact ⟨σ7, H7, I7.unpinned, q7⟩
  | ret v => obtain ⟨x7, σ7, H7, I7, r7, q7⟩ := q7; exact ⟨x7, σ7, H7, I7.unpinned, r7, q7⟩
end
end L2
namespace L2
open PySem PySem.Spec PyProof.Rows
noncomputable abbrev R2 := V → V → Hp → VK → Prop
noncomputable def OpR (X : Cx) (f : Value → Value → Sem Value) (r : R2) : Prop :=
 ∀ (pins : List (Addr × Obj)) (s : Shared) (σ : St) (H : Hp) (x y : V) (v u : Value) (Q : VK), Inv X pins σ H s → RelV x v → RelV y u → r x y H Q →
  wpAny (model X.prog X.w) X.A (f v u) (EP X pins σ Q) X.xe s
noncomputable def UnR (X : Cx) (f : Value → Sem Value) (r : V → Hp → VK → Prop) : Prop :=
 ∀ (pins : List (Addr × Obj)) (s : Shared) (σ : St) (H : Hp) (x : V) (v : Value) (Q : VK), Inv X pins σ H s → RelV x v → r x H Q →
  wpAny (model X.prog X.w) X.A (f v) (EP X pins σ Q) X.xe s
noncomputable def CallR (X : Cx) (f : Value) (r : List V → Hp → VK → Prop) : Prop :=
 ∀ (pins : List (Addr × Obj)) (s : Shared) (σ : St) (H : Hp) (xs : List V) (us : List Value) (Q : VK), Inv X pins σ H s → Vals xs us → r xs H Q →
  wpAny (model X.prog X.w) X.A (call f us) (EP X pins σ Q) X.xe s
noncomputable def tOp (r : R2) (ta tb : TE) : TE := fun σ H Q => ta σ H fun x H1 => tb σ H1 fun y H2 => r x y H2 Q
noncomputable def tUn (r : V → Hp → VK → Prop) (ta : TE) : TE := fun σ H Q => ta σ H fun x H1 => r x H1 Q
noncomputable def rI (C : Int → Int → Prop) (g : Int → Int → V) : R2 := fun x y H Q => ∃ i j, x = .int i ∧ y = .int j ∧ C i j ∧ Q (g i j) H
noncomputable def rI0 (g : Int → Int → V) : R2 := fun x y H Q => ∃ i j, x = .int i ∧ y = .int j ∧ Q (g i j) H
noncomputable def rU (g : Int → V) : V → Hp → VK → Prop := fun x H Q => ∃ i, x = .int i ∧ Q (g i) H
section
variable {X : Cx} {a b c : Expr} {ta tb tc : TE} {pos : Pos}
theorem binT (ha : PE X a ta) (hb : PE X b tb) {pins : List (Addr × Obj)} {s : Shared} {σ : St} {H : Hp} {R : V → V → Hp → Prop} (I : Inv X pins σ H s)
  (h : ta σ H fun x H1 => tb σ H1 fun y H2 => R x y H2) {Q : Value → Shared → Prop} {f : Value → Value → Sem Value}
  (hf : ∀ v u s2 x y H2, Inv X pins σ H2 s2 → RelV x v → RelV y u → R x y H2 → wpAny (model X.prog X.w) X.A (f v u) Q X.xe s2) :
  wpAny (model X.prog X.w) X.A (eval a X.env) (fun v s₁ => wpAny (model X.prog X.w) X.A (eval b X.env) (fun u s₂ => wpAny (model X.prog X.w) X.A (f v u) Q X.xe s₂) X.xe s₁) X.xe s := by
 refine thn (ha pins s σ H _ I h) fun v s1 hX11_ => ?_
 obtain ⟨x, H1, I1, r1, q1⟩ := hX11_
 refine thn (hb pins s1 σ H1 _ I1 q1) fun u s2 hX21_ => ?_
 obtain ⟨y, H2, I2, r2, q2⟩ := hX21_
 exact hf v u s2 x y H2 I2 r1 r2 q2
theorem pe_op {op : Operator} {r : R2} (ho : OpR X (binaryOp op) r) (ha : PE X a ta) (hb : PE X b tb) : PE X (.BinOp a op b pos) (tOp r ta tb) := by
 intro pins s σ H Q I h
 exact wpAny_BinOp (binT ha hb I h fun v u s2 x y H2 I2 rx ry q => ho pins s2 σ H2 x y v u Q I2 rx ry q)
theorem pe_un {op : UnaryOp} {r : V → Hp → VK → Prop} (ho : UnR X (unaryOp op) r) (ha : PE X a ta) : PE X (.UnaryOp op a pos) (tUn r ta) := by
 intro pins s σ H Q I h
 exact UnaryOp_ (thn (ha pins s σ H _ I h) fun v s1 ⟨x, H1, I1, r1, q1⟩ => ho pins s1 σ H1 x v Q I1 r1 q1)
theorem opI {f : Value → Value → Sem Value} {C : Int → Int → Prop} {g : Int → Int → Int}
  (rule : ∀ (i j : Int) (t u : Tok) (s : Shared) (Q : Value → Shared → Prop) (E : Value → Shared → Prop), C i j → Q (.int (g i j) s.toks) { s with toks := s.toks + 1 } → wpAny (model X.prog X.w) X.A (f (.int i t) (.int j u)) Q E s) :
  OpR X f (rI C fun i j => .int (g i j)) := by
 intro pins s σ H x y v u Q I rx ry h
 obtain ⟨i, j, rfl, rfl, hc, q⟩ := h
 obtain ⟨t, rfl⟩ := rx
 obtain ⟨t', rfl⟩ := ry
 exact rule i j t t' s _ _ hc ⟨.int (g i j), H, I.tok _, ⟨_, rfl⟩, q⟩
theorem opI0 {f : Value → Value → Sem Value} {g : Int → Int → Int}
  (rule : ∀ (i j : Int) (t u : Tok) (s : Shared) (Q : Value → Shared → Prop) (E : Value → Shared → Prop), Q (.int (g i j) s.toks) { s with toks := s.toks + 1 } → wpAny (model X.prog X.w) X.A (f (.int i t) (.int j u)) Q E s) :
  OpR X f (rI0 fun i j => .int (g i j)) := by
 intro pins s σ H x y v u Q I rx ry h
 obtain ⟨i, j, rfl, rfl, q⟩ := h
 obtain ⟨t, rfl⟩ := rx
 obtain ⟨t', rfl⟩ := ry
 exact rule i j t t' s _ _ ⟨.int (g i j), H, I.tok _, ⟨_, rfl⟩, q⟩
theorem opB0 {f : Value → Value → Sem Value} {g : Int → Int → Bool}
  (rule : ∀ (i j : Int) (t u : Tok) (s : Shared) (Q : Value → Shared → Prop) (E : Value → Shared → Prop), Q (.bool (g i j)) s → wpAny (model X.prog X.w) X.A (f (.int i t) (.int j u)) Q E s) :
  OpR X f (rI0 fun i j => .bl (g i j)) := by
 intro pins s σ H x y v u Q I rx ry h
 obtain ⟨i, j, rfl, rfl, q⟩ := h
 obtain ⟨t, rfl⟩ := rx
 obtain ⟨t', rfl⟩ := ry
 exact rule i j t t' s _ _ ⟨.bl (g i j), H, I, rfl, q⟩
noncomputable def CDiv (i j : Int) : Prop := 0 < j ∧ j < 1073741824
noncomputable def CMul (i j : Int) : Prop := (-(2 ^ 64) < i ∧ i < 2 ^ 64) ∨ (-(2 ^ 64) < j ∧ j < 2 ^ 64)
theorem CMul.ok {i j : Int} (h : CMul i j) : IntMulOk i j := by
 rcases h with ⟨h1, h2⟩ | ⟨h1, h2⟩
 ·exact .of_left (intBits_le_64 h1 h2)
 ·exact .of_right (intBits_le_64 h1 h2)
theorem op_add : OpR X (binaryOp .Add) (rI0 fun i j => .int (i + j)) := opI0 fun _ _ _ _ _ _ _ q => add_int q
theorem op_sub : OpR X (binaryOp .Sub) (rI0 fun i j => .int (i - j)) := opI0 fun _ _ _ _ _ _ _ q => sub_int q
theorem op_mul : OpR X (binaryOp .Mult) (rI CMul fun i j => .int (i * j)) := opI fun _ _ _ _ _ _ _ hc q => mul_int q hc.ok
theorem op_fdiv : OpR X (binaryOp .FloorDiv) (rI CDiv fun i j => .int (i / j)) := opI fun i j _ _ _ _ _ hc q => by
 have h1 : (0 : Int) < j := hc.1
 have h2 : j < 1073741824 := hc.2
 exact floordiv_int (by lia) (by rw [Int.fdiv_eq_ediv_of_nonneg i (by lia)]; exact q) (.inl (PyProof.noPylong_small (by lia)))
theorem op_mod : OpR X (binaryOp .Mod) (rI (fun _ j => 0 < j) fun i j => .int (i % j)) := opI fun i j _ _ _ _ _ hc q => by
 have h1 : (0 : Int) < j := hc
 exact mod_int' (by lia) (by rw [Int.fmod_eq_emod_of_nonneg i (by lia)]; exact q)
theorem unI {f : Value → Sem Value} {g : Int → Int}
  (rule : ∀ (i : Int) (t : Tok) (s : Shared) (Q : Value → Shared → Prop) (E : Value → Shared → Prop), Q (.int (g i) s.toks) { s with toks := s.toks + 1 } → wpAny (model X.prog X.w) X.A (f (.int i t)) Q E s) :
  UnR X f (rU fun i => .int (g i)) := by
 intro pins s σ H x v Q I rx h
 obtain ⟨i, rfl, q⟩ := h
 obtain ⟨t, rfl⟩ := rx
 exact rule i t s _ _ ⟨.int (g i), H, I.tok _, ⟨_, rfl⟩, q⟩
theorem un_neg : UnR X (unaryOp .USub) (rU fun i => .int (-i)) := unI fun _ _ _ _ _ q => neg_int q
end
noncomputable def scal : V → V → Bool
 | .non, .non => true | .non, .int _ => true | .int _, .non => true | .non, .bl _ => true | .bl _, .non => true | .non, .str _ => true | .str _, .non => true
 | .int _, .int _ => true | .bl _, .bl _ => true | .str _, .str _ => true | .byt _, .byt _ => true
 | .int _, .str _ => true | .str _, .int _ => true | .bl _, .str _ => true | .str _, .bl _ => true
 | _, _ => false
noncomputable def rEq : R2 := fun x y H Q => scal x y = true ∧ Q (.bl (decide (x = y))) H
noncomputable def rNe : R2 := fun x y H Q => scal x y = true ∧ Q (.bl (!decide (x = y))) H
theorem dec_int {i j : Int} : decide (V.int i = V.int j) = (i == j) := by
 rw [Bool.eq_iff_iff]
 simp
theorem dec_bl {i j : Bool} : decide (V.bl i = V.bl j) = (i == j) := by
 rw [Bool.eq_iff_iff]
 simp
theorem dec_str {i j : Str} : decide (V.str i = V.str j) = (i == j) := by
 rw [Bool.eq_iff_iff]
 simp
theorem dec_byt {i j : Array UInt8} : decide (V.byt i = V.byt j) = (i.toList == j.toList) := by
 rw [Bool.eq_iff_iff]
 cases i
 cases j
 simp
section
variable {X : Cx} {a b c : Expr} {ta tb tc : TE} {pos : Pos}
theorem fin_bl {pins : List (Addr × Obj)} {σ : St} {H : Hp} {s : Shared} {Q : VK} {k k' : Bool} (I : Inv X pins σ H s) (q : Q (.bl k) H) (e : k = k') : EP X pins σ Q (.bool k') s := by
 subst e
 exact ⟨.bl k, H, I, rfl, q⟩
theorem op_eq : OpR X (compareOp .Eq) rEq := by
 intro pins s σ H x y v u Q I rx ry h
 obtain ⟨hs, q⟩ := h
 cases x with
 | non =>
  cases rx
  cases y with
  | non => cases ry; exact PySem.EqNone.eq_none_none (fin_bl I q (by simp))
  | bl j => cases ry; exact PySem.EqNone.eq_none_bool (fin_bl I q (by simp))
  | int j => obtain ⟨t', rfl⟩ := ry; exact PySem.EqNone.eq_none_int (fin_bl I q (by simp))
  | str j => obtain ⟨t', rfl⟩ := ry; exact PySem.EqNone.eq_none_str (fin_bl I q (by simp))
  | _ => exact absurd (show false = true from hs) Bool.false_ne_true
 | bl i =>
  cases rx
  cases y with
  | non => cases ry; exact PySem.EqNone.eq_bool_none (fin_bl I q (by simp))
  | bl j => cases ry; exact eq_bool (fin_bl I q dec_bl)
  | str j => obtain ⟨t', rfl⟩ := ry; exact PySem.EqMixed.eq_bool_str (fin_bl I q (by simp))
  | _ => exact absurd (show false = true from hs) Bool.false_ne_true
 | int i =>
  obtain ⟨t, rfl⟩ := rx
  cases y with
  | non => cases ry; exact PySem.EqNone.eq_int_none (fin_bl I q (by simp))
  | int j => obtain ⟨t', rfl⟩ := ry; exact eq_int (fin_bl I q dec_int)
  | str j => obtain ⟨t', rfl⟩ := ry; exact PySem.EqMixed.eq_int_str (fin_bl I q (by simp))
  | _ => exact absurd (show false = true from hs) Bool.false_ne_true
 | str i =>
  obtain ⟨t, rfl⟩ := rx
  cases y with
  | non => cases ry; exact PySem.EqNone.eq_str_none (fin_bl I q (by simp))
  | bl j => cases ry; exact PySem.EqMixed.eq_str_bool (fin_bl I q (by simp))
  | int j => obtain ⟨t', rfl⟩ := ry; exact PySem.EqMixed.eq_str_int (fin_bl I q (by simp))
  | str j => obtain ⟨t', rfl⟩ := ry; exact eq_str (fin_bl I q dec_str)
  | _ => exact absurd (show false = true from hs) Bool.false_ne_true
 | byt i =>
  obtain ⟨t, rfl⟩ := rx
  cases y with
  | byt j => obtain ⟨t', rfl⟩ := ry; exact PySem.W.eq_bytes (fin_bl I q dec_byt)
  | _ => exact absurd (show false = true from hs) Bool.false_ne_true
 | _ => cases y <;> exact absurd (show false = true from hs) Bool.false_ne_true
theorem op_ne : OpR X (compareOp .NotEq) rNe := by
 intro pins s σ H x y v u Q I rx ry h
 obtain ⟨hs, q⟩ := h
 cases x with
 | non =>
  cases rx
  cases y with
  | non => cases ry; exact PySem.EqNone.ne_none_none (fin_bl I q (by simp))
  | bl j => cases ry; exact PySem.EqNone.ne_none_bool (fin_bl I q (by simp))
  | int j => obtain ⟨t', rfl⟩ := ry; exact PySem.EqNone.ne_none_int (fin_bl I q (by simp))
  | str j => obtain ⟨t', rfl⟩ := ry; exact PySem.EqNone.ne_none_str (fin_bl I q (by simp))
  | _ => exact absurd (show false = true from hs) Bool.false_ne_true
 | bl i =>
  cases rx
  cases y with
  | non => cases ry; exact PySem.EqNone.ne_bool_none (fin_bl I q (by simp))
  | bl j => cases ry; exact ne_bool (fin_bl I q (congrArg not dec_bl))
  | str j => obtain ⟨t', rfl⟩ := ry; exact PySem.EqMixed.ne_bool_str (fin_bl I q (by simp))
  | _ => exact absurd (show false = true from hs) Bool.false_ne_true
 | int i =>
  obtain ⟨t, rfl⟩ := rx
  cases y with
  | non => cases ry; exact PySem.EqNone.ne_int_none (fin_bl I q (by simp))
  | int j => obtain ⟨t', rfl⟩ := ry; exact ne_int (fin_bl I q (congrArg not dec_int))
  | str j => obtain ⟨t', rfl⟩ := ry; exact PySem.EqMixed.ne_int_str (fin_bl I q (by simp))
  | _ => exact absurd (show false = true from hs) Bool.false_ne_true
 | str i =>
  obtain ⟨t, rfl⟩ := rx
  cases y with
  | non => cases ry; exact PySem.EqNone.ne_str_none (fin_bl I q (by simp))
  | bl j => cases ry; exact PySem.EqMixed.ne_str_bool (fin_bl I q (by simp))
  | int j => obtain ⟨t', rfl⟩ := ry; exact PySem.EqMixed.ne_str_int (fin_bl I q (by simp))
  | str j => obtain ⟨t', rfl⟩ := ry; exact ne_str (fin_bl I q (congrArg not dec_str))
  | _ => exact absurd (show false = true from hs) Bool.false_ne_true
 | byt i =>
  obtain ⟨t, rfl⟩ := rx
  cases y with
  | byt j => obtain ⟨t', rfl⟩ := ry; exact PySem.W.ne_bytes (fin_bl I q (congrArg not dec_byt))
  | _ => exact absurd (show false = true from hs) Bool.false_ne_true
 | _ => cases y <;> exact absurd (show false = true from hs) Bool.false_ne_true
theorem op_lt : OpR X (compareOp .Lt) (rI0 fun i j => .bl (decide (i < j))) := opB0 fun _ _ _ _ _ _ _ q => lt_int q
theorem op_le : OpR X (compareOp .LtE) (rI0 fun i j => .bl (decide (i ≤ j))) := opB0 fun _ _ _ _ _ _ _ q => le_int q
theorem op_gt : OpR X (compareOp .Gt) (rI0 fun i j => .bl (decide (j < i))) := opB0 fun _ _ _ _ _ _ _ q => gt_int q
theorem op_isN : OpR X (compareOp .Is) (fun x y H Q => y = .non ∧ Q (.bl (decide (x = .non))) H) := by
 intro pins s σ H x y v u Q I rx ry h
 obtain ⟨rfl, q⟩ := h
 cases ry
 refine is_none_gen (fin_bl I q ?_)
 cases x <;> first
  | (cases rx; rfl)
  | (obtain ⟨t, rfl⟩ := rx; rfl)
theorem OpR.or {f : Value → Value → Sem Value} {r r' : R2} (h : OpR X f r) (h' : OpR X f r') : OpR X f (fun x y H Q => r x y H Q ∨ r' x y H Q) := by
 intro pins s σ H x y v u Q I rx ry q
 rcases q with q | q
 ·exact h pins s σ H x y v u Q I rx ry q
 ·exact h' pins s σ H x y v u Q I rx ry q
theorem nomark (b : Expr) {op : CmpOp} (h : op ≠ .In := by decide) (h2 : op ≠ .NotIn := by decide) : behindInMarks op b = false := by
 have e1 : (op == CmpOp.In) = false := by cases op <;> first | rfl | exact absurd rfl h
 have e2 : (op == CmpOp.NotIn) = false := by cases op <;> first | rfl | exact absurd rfl h2
 cases b <;> simp [behindInMarks, e1, e2]
theorem pe_cmpR {op : CmpOp} {r : R2} (ho : OpR X (compareOp op) r) (ha : PE X a ta) (hb : PE X b tb) (hm : behindInMarks op b = false) : PE X (.Compare a [op] [b] pos) (tOp r ta tb) := by
 intro pins s σ H Q I h
 exact wpAny_Compare1 (binT ha hb I h fun v u s2 x y H2 I2 rx ry q => ho pins s2 σ H2 x y v u Q I2 rx ry q) hm
noncomputable def tTest (t : TE) : TT := fun σ H Q => t σ H fun x H' => ∃ k, x = .bl k ∧ Q k H'
theorem pt_cmpR {op : CmpOp} {r : R2} (ho : OpR X (compareOp op) r) (ha : PE X a ta) (hb : PE X b tb) (hm : behindInMarks op b = false) : PT X (.Compare a [op] [b] pos) (tTest (tOp r ta tb)) := by
 intro pins s σ H Q I h
 refine wpAny_isTrue_Compare1 (thn (ha pins s σ H _ I h) fun v s1 ⟨x, H1, I1, r1, q1⟩ => thn (hb pins s1 σ H1 _ I1 q1) fun u s2 ⟨y, H2, I2, r2, q2⟩ =>
  thn (ho pins s2 σ H2 x y v u _ I2 r1 r2 q2) fun c s3 ⟨z, H3, I3, r3, k, e, q3⟩ => ?_) hm
 subst e
 cases r3
 exact wpAny_truthy_bool ⟨H3, I3, q3⟩
noncomputable def tChain (r r' : R2) (ta tb tc : TE) : TE := fun σ H Q => ta σ H fun x H1 => tb σ H1 fun y H2 => r x y H2 fun z H3 => ∃ k, z = .bl k ∧
 (if k = true then tc σ H3 fun w' H4 => r' y w' H4 Q else Q (.bl false) H3)
theorem pt_chain {op op' : CmpOp} {r r' : R2} (ho : OpR X (compareOp op) r) (ho' : OpR X (compareOp op') r') (ha : PE X a ta) (hb : PE X b tb) (hc : PE X c tc)
  (hm : lastMarks [op, op'] [b, c] = false := by with_unfolding_all rfl) : PT X (.Compare a [op, op'] [b, c] pos) (tTest (tChain r r' ta tb tc)) := by
 intro pins s σ H Q I h
 refine isTrue_chain (thn (ha pins s σ H _ I h) fun v s1 ⟨x, H1, I1, r1, q1⟩ => test_link (thn (hb pins s1 σ H1 _ I1 q1) fun u s2 ⟨y, H2, I2, r2, q2⟩ =>
  thn (ho pins s2 σ H2 x y v u _ I2 r1 r2 q2) fun d s3 ⟨z, H3, I3, r3, k, e, q3⟩ => ?_)) hm
 subst e
 cases r3
 refine wpAny_truthy_bool ?_
 cases k with
 | false =>
  obtain ⟨k', e', q'⟩ := q3
  cases e'
  exact ite_ff ⟨H3, I3, q'⟩
 | true =>
  refine ite_tt (test_last (thn (hc pins s3 σ H3 _ I3 q3) fun w' s4 ⟨z', H4, I4, r4, q4⟩ => thn (ho' pins s4 σ H4 y z' u w' _ I4 r2 r4 q4) fun d' s5 hX11_ => ?_))
  obtain ⟨z2, H5, I5, r5, k2, e2, q5⟩ := hX11_
  subst e2
  cases r5
  exact wpAny_truthy_bool ⟨H5, I5, q5⟩
theorem line63 : (sizeLine : Nat) < 2 ^ 63 := by rw [sizeLine_eq]; decide
theorem op_add_str : OpR X (binaryOp .Add) (fun x y H Q => ∃ i j, x = .str i ∧ y = .str j ∧ i.length + j.length ≤ sizeLine ∧ Q (.str (i ++ j)) H) := by
 intro pins s σ H x y v u Q I rx ry h
 obtain ⟨i, j, rfl, rfl, hz, q⟩ := h
 obtain ⟨t, rfl⟩ := rx
 obtain ⟨t', rfl⟩ := ry
 exact add_str (fun t' tk => ⟨.str (i ++ j), H, I.tok _, ⟨_, rfl⟩, q⟩) hz
theorem vals1 {x : V} {us : List Value} (r : Vals [x] us) : ∃ u, us = [u] ∧ RelV x u := by
 cases r with
 | cons r1 r2 => cases r2; exact ⟨_, rfl, r1⟩
theorem vals2 {x y : V} {us : List Value} (r : Vals [x, y] us) : ∃ u w', us = [u, w'] ∧ RelV x u ∧ RelV y w' := by
 cases r with
 | cons r1 r2 =>
  cases r2 with
  | cons r3 r4 => cases r4; exact ⟨_, _, rfl, r1, r3⟩
end
end L2
namespace L2
open PySem PySem.Spec PyProof.Rows
section
variable {prog : Program} {w : World} {A : Around} {E : Value → Shared → Prop} {s : Shared} {K : PySem.W.Frag} {x dx C f : Addr} {mA : Str → Option Value} {name : Str} {v : Value}
end
theorem RelO.some_of {v : V} {o : Option Value} (r : RelO (some v) o) : ∃ u, o = some u ∧ RelV v u := by
 cases o with
 | none => exact (show False from r).elim
 | some u => exact ⟨u, rfl, r⟩
section
variable {P : Program} {w : World} {H H' : Hp} {h h' : Heap} {a C dx : Addr} {fs fs' : List (Str × V)}
end
section
variable {X : Cx} {pins : List (Addr × Obj)} {σ : St} {H : Hp} {s : Shared} {a C dx : Addr} {fs : List (Str × V)} {f : Str} {v : V} {A : Around} {E : Value → Shared → Prop}
end
section
variable {X : Cx} {o e value : Expr} {f : Str} {pos pos' tpos : Pos} {ta tv : TE}
end
section
variable {X : Cx} {pins : List (Addr × Obj)} {σ : St} {H : Hp} {s : Shared} {A : Around} {E : Value → Shared → Prop} {Q : Value → Shared → Prop} {c : Value} {b : Bool}
end
end L2
namespace L2
open PySem PySem.Spec PyProof.Rows
structure Room (k : Nat) (A : Around) : Prop where
 hd : A.handled = none
 dp : A.depth + 3 * k + 5 < recursionLimit
 un : A.units + 16 * k + 200 < cLine
theorem Room.mono {j k : Nat} {A : Around} (r : Room k A) (h : j ≤ k) : Room j A := ⟨r.hd, by have := r.dp; lia, by have := r.un; lia⟩
theorem Room.deeper {k : Nat} {A : Around} (r : Room (k + 1) A) (env : Env) : Room k (A.deeper env) :=
 ⟨r.hd, by have := r.dp; show A.depth + 1 + 3 * k + 5 < _; lia, by have := r.un; show A.units + 3 + 16 * k + 200 < _; lia⟩
theorem Room.in1 {k : Nat} {A : Around} (r : Room (k + 1) A) : Room k A.in1 :=
 ⟨r.hd, by have := r.dp; show A.depth + 3 * k + 5 < _; lia, by have := r.un; show A.units + 1 + 16 * k + 200 < _; lia⟩
theorem Room.depth {k : Nat} {A : Around} (r : Room k A) : A.depth < recursionLimit := by have := r.dp; lia
theorem Room.units {k : Nat} {A : Around} (r : Room k A) : A.units + 64 < cLine := by have := r.un; lia
noncomputable def tNil : TA := fun _ H Q => Q [] H
noncomputable def tCons (ta : TE) (tr : TA) : TA := fun σ H Q => ta σ H fun x H1 => tr σ H1 fun xs H2 => Q (x :: xs) H2
section
variable {X : Cx} {e : Expr} {es : List Expr} {te : TE} {t : TA} {pos : Pos}
theorem pa_nil : PA X [] tNil := fun _ _ _ _ H Q I h => Calls.spliced_nil ⟨[], H, I, .nil, h⟩
theorem pa_cons (ha : PE X e te) (hr : PA X es t) (hs : starEach (e :: es) X.env = (false, eval e X.env) :: starEach es X.env := by rfl) : PA X (e :: es) (tCons te t) := by
 intro pos pins s σ H Q I h
 rw [hs]
 show wpAny _ _ (spliced ((false, eval e X.env) :: backTo pos (starEach es X.env))) _ _ s
 refine Calls.spliced_cons (thn (ha pins s σ H _ I h) fun u s1 hX11_ => ?_)
 obtain ⟨x, H1, I1, r1, q1⟩ := hX11_
 exact thn (hr pos pins s1 σ H1 _ I1 q1) fun us s2 ⟨xs, H2, I2, r2, q2⟩ => ⟨x :: xs, H2, I2, .cons r1 r2, q2⟩
noncomputable def tTup (t : TA) : TE := fun σ H Q => t σ H fun xs H1 => xs.length ≤ sizeLine ∧ ∀ p, H1 p = none → Q (.ref p) (upd H1 p (.tup xs))
noncomputable def tLst (t : TA) : TE := fun σ H Q => t σ H fun xs H1 => xs.length ≤ sizeLine ∧ ∀ p, H1 p = none → Q (.ref p) (upd H1 p (.lst xs))
theorem pe_tup {x1} (h : PA X es t) : PE X (.Tuple es x1 pos) (tTup t) := by
 intro pins s σ H Q I hq
 refine wpAny_Tuple_spliced (thn (h pos pins s σ H _ I hq) fun us s1 ⟨xs, H1, I1, r, z, q⟩ => ⟨by rw [← r.length]; exact z, ?_⟩)
 have hf : H1 s1.heap.objs.size = none := I1.hok.fresh (Nat.le_refl _)
 refine ⟨.ref s1.heap.objs.size, upd H1 s1.heap.objs.size (.tup xs), I1.laid (t' := s1.toks) (fun b u e => Heap.get?_push_of_some _ e) (Nat.le_refl _) ?_, rfl, q _ hf⟩
 exact ⟨z, us, r, ⟨_, Heap.get?_push_size _ rfl, rfl, _, rfl⟩⟩
theorem pe_lst (h : PA X es t) : PE X (.List es pos) (tLst t) := by
 intro pins s σ H Q I hq
 refine wpAny_List_spliced (thn (h pos pins s σ H _ I hq) fun us s1 ⟨xs, H1, I1, r, z, q⟩ => ⟨by rw [← r.length]; exact z, ?_⟩)
 have hf : H1 s1.heap.objs.size = none := I1.hok.fresh (Nat.le_refl _)
 refine ⟨.ref s1.heap.objs.size, upd H1 s1.heap.objs.size (.lst xs), I1.laid (t' := s1.toks) (fun b u e => Heap.get?_push_of_some _ e) (Nat.le_refl _) ?_, rfl, q _ hf⟩
 exact ⟨z, us, 0, r, Heap.get?_push_size _ rfl⟩
end
noncomputable abbrev Sp := List V → Hp → VK → XK → Prop
noncomputable abbrev CXT := List Env → Hp → Shared → XK → Value → Shared → Prop
structure Env0 (P : Program) (w : World) (K : PySem.W.Frag) (mg : Str → Option Value) (base : Heap) (A : Around) (outer : List Env) (s : Shared) (H : Hp) : Prop where
 frames : A.frames = some outer
 mod : Mod K mg base
 bs : ∀ b o, base.get? b = some o → s.heap.get? b = some o ∧ H b = none
 bsz : base.objs.size ≤ s.heap.objs.size
 funs : s.heap.FunFrames base outer
 frf : ∀ b ∈ frs outer, H b = none
 hok : HOk P w H s.heap
 bare : AllBare s.gens
noncomputable def CE (outer : List Env) (P : Program) (w : World) (H : Hp) (s : Shared) (Q : VK) (u : Value) (s' : Shared) : Prop :=
 ∃ v H', s'.os = s.os ∧ AllBare s'.gens ∧ Un (frs outer) [] H H' s.heap s'.heap ∧ HOk P w H' s'.heap ∧ RelV v u ∧ Q v H'
noncomputable def CR (CX : CXT) (outer : List Env) (P : Program) (w : World) (H : Hp) (s : Shared) (Q : VK) (E : XK) (r : Result) (s' : Shared) : Prop :=
 match r with
 | .ok (.ret u) => CE outer P w H s Q u s'
 | .ok _ => False
 | .error e => CX outer H s E e s'
structure FnOk (P : Program) (w : World) (K : PySem.W.Frag) (mg : Str → Option Value) (base : Heap) (CX : CXT) (k : Nat) (f : Addr) (fd : FuncData) (ps : List Str) (sp : Sp) : Prop where
 len : ∀ vs H Q E, sp vs H Q E → vs.length = ps.length
 run : ∀ (A : Around) (outer : List Env) (s : Shared) (H : Hp) (args : Args) (us : List Value) (vs : List V) (Q : VK) (E : XK), Room k A → Env0 P w K mg base A outer s H → BindsTo s fd args (ps.zip us) → Vals vs us → sp vs H Q E →
  codeAny (model P w) A (.call (.ref f) args) (CR CX outer P w H s Q E) s
theorem Env0.in1 {P : Program} {w : World} {K : PySem.W.Frag} {mg : Str → Option Value} {base : Heap} {A : Around} {outer : List Env} {s : Shared} {H : Hp} (e : Env0 P w K mg base A outer s H) :
  Env0 P w K mg base A.in1 outer s H := ⟨e.frames, e.mod, e.bs, e.bsz, e.funs, e.frf, e.hok, e.bare⟩
section
variable {X : Cx} {pins : List (Addr × Obj)} {σ : St} {H : Hp} {s s' : Shared}
theorem Inv.env0 (I : Inv X pins σ H s) : Env0 X.prog X.w X.K X.mg X.base X.A X.stack s H :=
 ⟨I.ok.frames, I.ok.mod, I.bs, Nat.le_trans I.ok.bsz I.sz, I.stack, I.stkFree, I.hok, I.bare⟩
theorem Inv.after {Q : VK} {u : Value} (I : Inv X pins σ H s) (h : CE X.stack X.prog X.w H s Q u s') : EP X pins σ Q u s' := by
 obtain ⟨v, H', os, bare, un, hok, r, q⟩ := h
 obtain ⟨hh, g, d, t, os'⟩ := s'
 obtain rfl : os' = s.os := os
 exact ⟨v, H', I.call (h' := hh) (g' := g) (d' := d) (t' := t) (ch := []) un hok bare (fun b z => absurd z (by simp)), r, q⟩
end
noncomputable def tCall (sp : Sp) (dvs : List V) (E : XK) (t : TA) : TE := fun σ H Q => t σ H fun vs H1 => sp (vs ++ dvs) H1 Q E
noncomputable def Binds (K : PySem.W.Frag) (fd : FuncData) (ps : List Str) (ds : List Value) : Prop :=
 ∀ (s : Shared) (us : List Value), K.In s.heap → (us ++ ds).length = ps.length → BindsTo s fd ⟨us, []⟩ (ps.zip (us ++ ds))
theorem Binds.all {K : PySem.W.Frag} {fd : FuncData} {ps : List Str} (h : ∀ us : List Value, us.length = ps.length → bindArgs fd ⟨us, []⟩ = pure (ps.zip us)) : Binds K fd ps [] := fun s us _ hl => by
 rw [List.append_nil] at hl ⊢
 exact .of_eq (h us hl)
noncomputable def Passes (CX : CXT) (X : Cx) (E : XK) : Prop := ∀ (pins : List (Addr × Obj)) (σ : St) (H : Hp) (s : Shared) (e : Value) (s' : Shared), Inv X pins σ H s → CX X.stack H s E e s' → X.xe e s'
section
variable {X : Cx} {CX : CXT} {k : Nat} {f C : Addr} {fd : FuncData} {ps : List Str} {sp : Sp} {dvs : List V} {ds : List Value} {E : XK} {x m : Str} {p pos apos : Pos} {e o : Expr} {es : List Expr} {ta : TE} {t : TA}
theorem run_fn {pins : List (Addr × Obj)} {σ : St} {H : Hp} {s : Shared} {Q : VK} {us : List Value} {vs : List V} (F : FnOk X.prog X.w X.K X.mg X.base CX k f fd ps sp) (hr : Room k X.A) (hb : Binds X.K fd ps ds) (hd : Vals dvs ds) (hx : Passes CX X E)
  (I : Inv X pins σ H s) (r : Vals vs us) (h : sp (vs ++ dvs) H Q E) : wpAny (model X.prog X.w) X.A (call (.ref f) us) (EP X pins σ Q) X.xe s := by
 have r2 : Vals (vs ++ dvs) (us ++ ds) := r.append hd
 have hl : (us ++ ds).length = ps.length := by rw [← r2.length]; exact F.len _ _ _ _ h
 refine wpAny_call (codeAny_mono (F.run X.A X.stack s H ⟨us, []⟩ (us ++ ds) (vs ++ dvs) Q E hr I.env0 (hb s us I.kIn hl) r2 h) fun r s' hq => ?_)
 cases r with
 | error e => exact hx pins σ H s e s' I hq
 | ok fl =>
  cases fl with
  | ret u => exact I.after hq
  | next => exact False.elim hq
  | brk => exact False.elim hq
  | cont => exact False.elim hq
theorem pe_call (F : FnOk X.prog X.w X.K X.mg X.base CX k f fd ps sp) (hr : Room k X.A) (hg : Gl X x) (hm : X.mg x = some (.ref f)) (hk : PySem.W.keepIn X.K (.ref f) = true) (hb : Binds X.K fd ps ds) (hd : Vals dvs ds) (hx : Passes CX X E)
  (ha : PA X (e :: es) t) (hdb : (x == ("__debug__" : Str)) = false := by decide) (he : starEach (e :: es) X.env = (false, eval e X.env) :: starEach es X.env := by rfl) (hpl : (backTo pos (starEach es X.env)).any (·.1) = false := by rfl) :
  PE X (.Call (.Name x p) (e :: es) [] pos) (tCall sp dvs E t) := by
 intro pins s σ H Q I h
 refine wpAny_Call_Name_kw (ld_glob I hg hm ?_ hdb)
 refine PySem.W.callWith_K (h₀ := X.base) I.ok.mod.kin hk (thn (ha pos pins s σ H _ I h) fun us s1 ⟨vs, H1, I1, r, q⟩ => ⟨I1.kIn, ?_⟩) he hpl
 exact run_fn F hr hb hd hx I1 r q
end
section
variable {X : Cx} {CX : CXT} {k : Nat} {f C : Addr} {fd : FuncData} {ps ks : List Str} {sp : Sp} {E : XK} {x m : Str} {p pos apos kpos : Pos} {e o : Expr} {es : List Expr} {kws : List Keyword} {te ta : TE} {t tk : TA} {nm : Option Str}
variable {g : List Value → List Value → List Value} {gV : List V → List V → List V}
end
structure FnScope (N P : List Str) (sc : Scope) : Prop where
 kind : sc.kind = .function
 co : sc.isCoroutine = false
 gen : sc.isGenerator = false
 nd : N.Nodup
 pre : N.take P.length = P
 par : ∀ x ∈ P, sc.names.lookup x = some .local ∨ sc.names.lookup x = some .cell
 nofree : ∀ y ∈ sc.names, y.2 ≠ .free
theorem bindL_out {kindOf : Str → Option NameKind} {x : Str} : ∀ {binds : List (Str × Value)} {m : Str → Option Value}, (∀ v, (x, v) ∉ binds) → bindL kindOf binds m x = m x
 | [], _, _ => rfl
 | (n, v) :: r, m, h => by
  unfold bindL
  rw [bindL_out fun w hw => h w (List.mem_cons_of_mem _ hw)]
  split
  ·have : x ≠ n := by rintro rfl; exact h v List.mem_cons_self
   simp [this]
  ·rfl
theorem bindC_out {kindOf : Str → Option NameKind} {x : Str} : ∀ {binds : List (Str × Value)} {m : Str → Option Value}, (∀ v, (x, v) ∉ binds) → bindC kindOf binds m x = m x
 | [], _, _ => rfl
 | (n, v) :: r, m, h => by
  unfold bindC
  rw [bindC_out fun w hw => h w (List.mem_cons_of_mem _ hw)]
  split
  ·rfl
  ·have : x ≠ n := by rintro rfl; exact h v List.mem_cons_self
   simp [this]
theorem bindL_get {kindOf : Str → Option NameKind} {x : Str} {v : Value} : ∀ {P : List Str} {vs : List Value} {i : Nat} {m : Str → Option Value}, P.Nodup → P[i]? = some x → vs[i]? = some v → kindOf x = some .local →
  bindL kindOf (P.zip vs) m x = some v
 | [], _, _, _, _, h, _, _ => by simp at h
 | _ :: _, [], _, _, _, _, h, _ => by simp at h
 | p :: P, w :: vs, 0, m, nd, h1, h2, hk => by
  simp at h1 h2; subst h1; subst h2
  show bindL kindOf ((p, w) :: P.zip vs) m p = _
  unfold bindL
  rw [bindL_out fun v hv => (List.nodup_cons.mp nd).1 (List.of_mem_zip hv).1, if_pos hk]
  simp
 | p :: P, w :: vs, i + 1, m, nd, h1, h2, hk => by
  show bindL kindOf ((p, w) :: P.zip vs) m x = _
  unfold bindL
  exact bindL_get (i := i) (List.nodup_cons.mp nd).2 (by simpa using h1) (by simpa using h2) hk
theorem bindC_get {kindOf : Str → Option NameKind} {x : Str} {v : Value} : ∀ {P : List Str} {vs : List Value} {i : Nat} {m : Str → Option Value}, P.Nodup → P[i]? = some x → vs[i]? = some v → kindOf x ≠ some .local →
  bindC kindOf (P.zip vs) m x = some v
 | [], _, _, _, _, h, _, _ => by simp at h
 | _ :: _, [], _, _, _, _, h, _ => by simp at h
 | p :: P, w :: vs, 0, m, nd, h1, h2, hk => by
  simp at h1 h2; subst h1; subst h2
  show bindC kindOf ((p, w) :: P.zip vs) m p = _
  unfold bindC
  rw [bindC_out fun v hv => (List.nodup_cons.mp nd).1 (List.of_mem_zip hv).1, if_neg hk]
  simp
 | p :: P, w :: vs, i + 1, m, nd, h1, h2, hk => by
  show bindC kindOf ((p, w) :: P.zip vs) m x = _
  unfold bindC
  exact bindC_get (i := i) (List.nodup_cons.mp nd).2 (by simpa using h1) (by simpa using h2) hk
noncomputable def start (N : List Str) (vs : List V) : St := vs.map some ++ List.replicate (N.length - vs.length) none
noncomputable def cxOf (CX : CXT) (P : Program) (w : World) (K : PySem.W.Frag) (mg : Str → Option Value) (base : Heap) (N : List Str) (qual : Str) (scope : Scope) (f : Addr) (cd : Value) (A : Around) (outer : List Env) (s : Shared) (H : Hp) (E : XK) : Cx where
 prog := P
 w := w
 K := K
 mg := mg
 base := base
 A := A.deeper (envOfC qual scope s.heap.objs.size f cd)
 N := N
 s₀ := s
 H₀ := H
 env := envOfC qual scope s.heap.objs.size f cd
 outer := outer
 stack := envOfC qual scope s.heap.objs.size f cd :: outer
 ex := []
 calm := true
 fn := fun _ => true
 pn := []
 xe := fun e s' => wpAny (model P w) (A.deeper (envOfC qual scope s.heap.objs.size f cd)) (leaving (envOfC qual scope s.heap.objs.size f cd) e) (fun _ s'' => CX outer H s E e s'') (fun e' s'' => CX outer H s E e' s'') s'
theorem cell_has {sc : Scope} {n : Nat} {x : Str} (h : sc.names.lookup x = some .cell) : ∃ c, (cellsFrom n sc.names []).lookup x = some c := by
 have q := PySem.W.cellsFrom_some sc.names n [] (.inl h)
 exact Option.isSome_iff_exists.mp q
theorem inv_start {CX : CXT} {P : Program} {w : World} {K : PySem.W.Frag} {mg : Str → Option Value} {base : Heap} {N ps : List Str} {qual : Str} {scope : Scope} {f : Addr} {cd : Value} {A : Around} {outer : List Env} {s s1 : Shared} {H : Hp} {E : XK} {us : List Value} {vs : List V}
  (S : FnScope N ps scope) (hd : A.handled = none) (e0 : Env0 P w K mg base A outer s H) (hl : vs.length = ps.length) (r : Vals vs us)
  (x : InCallC s s.heap.objs.size (bindL (envOfC qual scope s.heap.objs.size f cd).kindOf (ps.zip us) fun _ => none) (cellsFrom (s.heap.objs.size + 1) scope.names []) (bindC (envOfC qual scope s.heap.objs.size f cd).kindOf (ps.zip us) fun _ => none) s1) :
  Inv (cxOf CX P w K mg base N qual scope f cd A outer s H E) [] (start N vs) H s1 := by
 have hpl : ps.length ≤ N.length := by have := congrArg List.length S.pre; rw [List.length_take] at this; lia
 obtain ⟨h1, tk, rfl, hk⟩ := x.done
 have noA : ∀ b : Addr, b ∉ (cxOf CX P w K mg base N qual scope f cd A outer s H E).ex := fun b z => absurd (show b ∈ ([] : List Addr) from z) (by simp)
 refine ⟨⟨e0.mod, S.kind, rfl, rfl, Nat.le_refl _, fun y z c h1 h2 => ?_, fun y hy => ?_, fun y c _ h => ?_, fun _ => hd, Around.frames_deeper e0.frames, .inr ⟨rfl, rfl⟩, fun b z => absurd z (noA b), e0.bs, e0.bsz, fun b _ _ => noA b, fun b z => absurd z (noA b), e0.funs, e0.frf⟩,
  rfl, e0.bare, Un.kept hk, ⟨_, x.toInCall.ns, fun i y v h1 h2 h3 => ?_⟩, fun y c h => ⟨_, x.cell y c h⟩, e0.hok.fresh (Nat.le_refl _), fun y c h => ?_, fun p hp => absurd (show p ∈ ([] : List (Addr × Obj)) from hp) (by simp), e0.hok.kept hk, ?_⟩
 ·exact name_of_addr x.apart (PySem.mem_of_lookup h1) (PySem.mem_of_lookup h2)
 ·have hy : scope.names.lookup y = some .cell ∨ scope.names.lookup y = some .free := hy
  rcases hy with hy | hy
  ·exact cell_has hy
  ·exact absurd rfl (S.nofree _ (PySem.mem_of_lookup hy))
 ·exact Nat.le_of_lt (x.above y c (PySem.mem_of_lookup h))
 ·have hi : i < vs.length := by
   unfold start at h2
   by_cases hi : i < vs.length
   ·exact hi
   ·rw [List.getElem?_append_right (by simpa using hi)] at h2
    rw [List.getElem?_replicate] at h2
    split at h2 <;> cases h2
  have ha : vs[i]? = some v := by
   unfold start at h2
   rw [List.getElem?_append_left (by simpa using hi), List.getElem?_map] at h2
   cases e : vs[i]? with
   | none => rw [e] at h2; cases h2
   | some a => rw [e] at h2; cases h2; rfl
  obtain ⟨u, hu, rv⟩ := r.get ha
  have hp : ps[i]? = some y := by
   rw [← S.pre, List.getElem?_take_of_lt (by lia)]; exact h1
  have ndP : ps.Nodup := by rw [← S.pre]; exact S.nd.sublist (List.take_sublist _ _)
  refine ⟨u, rv, ?_⟩
  rcases S.par y (List.mem_of_getElem? hp) with k | k
  ·exact .inl ⟨k, bindL_get ndP hp hu k⟩
  ·obtain ⟨c, e⟩ := cell_has (n := s.heap.objs.size + 1) k
   refine .inr ⟨.inl k, c, e, ?_⟩
   have q := x.cell y c e
   rw [bindC_get ndP hp hu (by show scope.names.lookup y ≠ _; rw [k]; decide)] at q
   exact q
 ·exact e0.hok.fresh (Nat.le_of_lt (x.above y c (PySem.mem_of_lookup h)))
 ·unfold start
  show _ = N.length
  rw [List.length_append, List.length_map, List.length_replicate]
  lia
theorem fn_of {CX : CXT} {P : Program} {w : World} {K : PySem.W.Frag} {mg : Str → Option Value} {base : Heap} {k : Nat} {f : Addr} {name qual : Str} {params : Arguments} {body : List Stmt} {scope : Scope} {dV kV doc pm cdv ct oc : Value} {an od : Option Addr}
  {osl : Array (Option Value)} {N ps : List Str} {sp : Sp} (lk : K.lookup f = some ⟨oc, od, .func (PySem.W.fnOf name qual params body scope dV kV doc pm an cdv ct), osl⟩) (hcd : PySem.W.codeIn K cdv qual = true) (S : FnScope N ps scope)
  (len : ∀ vs H Q E, sp vs H Q E → vs.length = ps.length)
  (hbody : ∀ (A : Around) (outer : List Env) (s : Shared) (H : Hp) (vs : List V) (Q : VK) (E : XK), Room k (A.deeper (envOfC qual scope s.heap.objs.size f cdv)) → sp vs H Q E →
   ∃ t, PSs (cxOf CX P w K mg base N qual scope f cdv A outer s H E) body t ∧ t { nx := fun _ H' => Q .non H', rt := Q } (start N vs) H) :
  FnOk P w K mg base CX (k + 1) f (PySem.W.fnOf name qual params body scope dV kV doc pm an cdv ct) ps sp := by
 refine ⟨len, fun A outer s H args us vs Q E hr e0 hb r hsp => ?_⟩
 have hl := len _ _ _ _ hsp
 have KX : K.In s.heap := e0.mod.kin.keeps fun b o e => (e0.bs b o e).1
 have lim : s.heap.NoLimit := e0.mod.nolimit.keeps fun b o e => (e0.bs b o e).1
 have hkind : ∀ y ∈ ps.zip us, scope.names.lookup y.1 = some .local ∨ (scope.names.lookup y.1 = some .cell ∧ ((cellsFrom (s.heap.objs.size + 1) scope.names []).lookup y.1).isSome = true) := fun hX11_ hy => by
  obtain ⟨n, v⟩ := hX11_
  rcases S.par n (List.of_mem_zip hy).1 with q | q
  ·exact .inl q
  ·exact .inr ⟨q, PySem.W.cellsFrom_some _ _ _ (.inl q)⟩
 refine codeAny_call_function hr.depth (KX _ _ lk) rfl S.co S.gen rfl (PySem.W.codeRec_of KX hcd) (hb _ _ _ _ ?_)
 refine wpAny_newFunctionEnv_cells S.kind hkind fun env he s1 x => ?_
 subst he
 refine ⟨lim.keeps x.toInCall.keep, codeAny_func ?_⟩
 obtain ⟨t, ht, hq⟩ := hbody A outer s H vs Q E (hr.deeper _) hsp
 have I : Inv (cxOf CX P w K mg base N qual scope f cdv A outer s H E) [] (start N vs) H s1 := inv_start S hr.hd e0 hl r x
 refine wpAny_mono (ht [] s1 (start N vs) H _ I hq) (fun fl s' hs => ?_) fun e s' hs => hs
 have fin : ∀ {σ' : St} {H' : Hp} {v : V} {u : Value}, Inv (cxOf CX P w K mg base N qual scope f cdv A outer s H E) [] σ' H' s' → RelV v u → Q v H' → CE outer P w H s Q u s' :=
  fun {σ' H' v u} J rv q => ⟨v, H', J.os, J.bare, J.base, J.hok, rv, q⟩
 cases fl with
 | ret u =>
  obtain ⟨v, σ', H', J, rv, q⟩ := hs
  exact fin J rv q
 | next =>
  obtain ⟨σ', H', J, q⟩ := hs
  exact fin (v := V.non) (u := Value.none) J rfl q
 | brk =>
  obtain ⟨_, _, _, q⟩ := hs
  exact False.elim q
 | cont =>
  obtain ⟨_, _, _, q⟩ := hs
  exact False.elim q
end L2
namespace L2
open PySem PySem.Spec PyProof.Rows
section
variable {X : Cx} {x : Str} {p pos : Pos} {e : Expr} {es : List Expr} {t : TA} {id T : String} {r : List V → Hp → VK → Prop}
noncomputable def tCB (r : List V → Hp → VK → Prop) (t : TA) : TE := fun σ H Q => t σ H fun vs H1 => r vs H1 Q
theorem pe_callB (hc : CallR X (.builtin id) r) (hg : Gl X x) (hm : X.mg x = none) (hv : bootBuiltins x = some (.builtin id)) (ha : PA X (e :: es) t) (hn : x ≠ "__name__" := by decide) (hdb : (x == ("__debug__" : Str)) = false := by decide)
  (he : starEach (e :: es) X.env = (false, eval e X.env) :: starEach es X.env := by rfl) (hpl : (backTo pos (starEach es X.env)).any (·.1) = false := by rfl) : PE X (.Call (.Name x p) (e :: es) [] pos) (tCB r t) := by
 intro pins s σ H Q I h
 refine wpAny_Call_Name_kw (ld_blt I hg hm hv ?_ hn hdb)
 exact PyProof.Rows.callWith_builtin1 (thn (ha pos pins s σ H _ I h) fun us s1 ⟨vs, H1, I1, r1, q1⟩ => hc pins s1 σ H1 vs us Q I1 r1 q1) he hpl
theorem pe_callTy (hc : CallR X (.type T) r) (hg : Gl X x) (hm : X.mg x = none) (hv : bootBuiltins x = some (.type T)) (ha : PA X (e :: es) t) (hn : x ≠ "__name__" := by decide) (hdb : (x == ("__debug__" : Str)) = false := by decide)
  (he : starEach (e :: es) X.env = (false, eval e X.env) :: starEach es X.env := by rfl) (hpl : (backTo pos (starEach es X.env)).any (·.1) = false := by rfl) : PE X (.Call (.Name x p) (e :: es) [] pos) (tCB r t) := by
 intro pins s σ H Q I h
 refine wpAny_Call_Name_kw (ld_blt I hg hm hv ?_ hn hdb)
 exact PyProof.Rows.callWith_type1 (thn (ha pos pins s σ H _ I h) fun us s1 ⟨vs, H1, I1, r1, q1⟩ => hc pins s1 σ H1 vs us Q I1 r1 q1) he hpl
end
end L2
namespace HT
open PySem PyProof.Rows
section
open PySem.SeqAt
open PySem.AutoSeq1 (wpAny_loadPart')
open PySem.MeetsSeq PySem.MeetsSeq2 PySem.MeetsSeq3
end
section
variable {prog : Program} {w : World} {A : Around} {E : Value → Shared → Prop} {s : Shared}
theorem cat_tup {t b : Addr} {vs ws : List Value} {Q : Value → Shared → Prop} (ht : IsTup s.heap t vs.toArray) (hb : IsTup s.heap b ws.toArray) (hv : vs ≠ [])
  (h1 : ws = [] → Q (.ref t) s) (h2 : ws ≠ [] → Q (.ref s.heap.objs.size) { s with heap := s.heap.push { cls := .type "tuple", data := .seq (vs ++ ws).toArray } })
  (hsz : vs.length + ws.length ≤ sizeLine) : wpAny (model prog w) A (binaryOp .Add (.ref t) (.ref b)) Q E s := by
 obtain ⟨⟨cls, dd, data, sl⟩, ho, hc, n, hd⟩ := id ht
 obtain ⟨⟨cls2, dd2, data2, sl2⟩, ho2, hc2, n2, hd2⟩ := id hb
 simp only at hc hd hc2 hd2
 subst hc hd hc2 hd2
 have e : vs.toArray ++ ws.toArray = (vs ++ ws).toArray := by simp
 by_cases hw : ws = []
 ·exact concat_meets ⟨_, ho, rfl⟩ ⟨_, ho2, rfl⟩ noFill_tuple_add seq_tuple_add PySem.F.slot_tuple_add PySem.F.entry_tuple_add (PySem.F.args_tuple_add_2 _ _)
   (tuple_addW1 t b vs.toArray ws.toArray n n2 dd dd2 sl sl2 (by simpa using hv) (by simp [hw])) ⟨ho, ho2, h1 hw⟩
 ·refine concat_meets ⟨_, ho, rfl⟩ ⟨_, ho2, rfl⟩ noFill_tuple_add seq_tuple_add PySem.F.slot_tuple_add PySem.F.entry_tuple_add (PySem.F.args_tuple_add_2 _ _)
   (tuple_addW2 t b vs.toArray ws.toArray n n2 dd dd2 sl sl2 (by simpa using hv) (by simpa using hw) (by rw [List.size_toArray, List.size_toArray]; exact hsz)) ⟨ho, ho2, ?_⟩
  rw [e]
  exact h2 hw
end
end HT
namespace L2
open PySem PySem.Spec PyProof.Rows
noncomputable abbrev TO := St → Hp → (Option Int → Hp → Prop) → Prop
noncomputable def PO (X : Cx) (e : Option Expr) (t : TO) : Prop :=
 ∀ (pins : List (Addr × Obj)) (s : Shared) (σ : St) (H : Hp) (Q : Option Int → Hp → Prop), Inv X pins σ H s → t σ H Q →
  wpAny (model X.prog X.w) X.A (evalPart e X.env) (fun u s' => ∃ o H', Inv X pins σ H' s' ∧ IsPart u o ∧ Q o H') X.xe s
theorem intsAre_of {ns : List Int} : ∀ {us : List Value}, Vals (ns.map V.int) us → IntsAre us ns := by
 induction ns with
 | nil => intro us r; rw [List.map_nil] at r; cases r; exact .nil
 | cons n ns ih =>
  intro us r
  rw [List.map_cons] at r
  cases r with
  | cons r1 r2 =>
   obtain ⟨t, e⟩ := r1
   subst e
   exact .cons n t (ih r2)
section
variable {X : Cx} {e : Expr} {te : TE} {lo hi : Option Expr} {tl th : TO} {pos p2 : Pos}
noncomputable def rCatT (K : PySem.W.Frag) : R2 := fun x y H Q => ∃ a b xs ys, x = .ref a ∧ y = .ref b ∧ SqT K H a xs ∧ SqT K H b ys ∧ xs ≠ [] ∧ xs.length + ys.length ≤ sizeLine ∧
 (ys = [] → Q (.ref a) H) ∧ (ys ≠ [] → ∀ p, H p = none → Q (.ref p) (upd H p (.tup (xs ++ ys))))
theorem Vals.nil_iff {xs : List V} {us : List Value} (r : Vals xs us) : us = [] ↔ xs = [] := by
 cases r with
 | nil => simp
 | cons _ _ => simp
theorem op_catT : OpR X (binaryOp .Add) (rCatT X.K) := by
 intro pins s σ H x y v u Q I rx ry h
 obtain ⟨a, b, xs, ys, rfl, rfl, ha, hb, hx, hz, q1, q2⟩ := h
 cases rx
 cases ry
 obtain ⟨its, r1, p1, _⟩ := I.tuple ha
 obtain ⟨its2, r2, p2, _⟩ := I.tuple hb
 refine HT.cat_tup p1 p2 (fun z => hx (r1.nil_iff.mp z)) (fun z => ⟨.ref a, H, I, rfl, q1 (r2.nil_iff.mp z)⟩) (fun z => ?_) (by rw [← r1.length, ← r2.length]; exact hz)
 refine ⟨.ref s.heap.objs.size, _, I.laid (t' := s.toks) (o := .tup (xs ++ ys)) (fun b ob q => Heap.get?_push_of_some _ q) (Nat.le_refl _) ?_, rfl, q2 (fun w => z (r2.nil_iff.mpr w)) _ (I.hok.fresh (Nat.le_refl _))⟩
 exact ⟨by rw [List.length_append]; exact hz, _, r1.append r2, IsTup.new _ _⟩
end
end L2
namespace L2
open PySem PySem.Spec PyProof.Rows
noncomputable def ixN (n : Nat) (i : Int) : Option Nat := if 0 ≤ i then (if i < n then some i.toNat else none) else if -(n : Int) ≤ i then some (i + n).toNat else none
noncomputable def atI {α : Type} (xs : List α) (i : Int) : Option α := (ixN xs.length i).bind fun j => xs[j]?
theorem ixN_seq {n : Nat} {i : Int} {j : Nat} (h : ixN n i = some j) : seqIndex? i n = some j ∧ j < n ∧ -(n : Int) ≤ i ∧ i < n := by
 unfold ixN at h
 by_cases h0 : 0 ≤ i
 ·rw [if_pos h0] at h
  by_cases h1 : i < n
  ·rw [if_pos h1] at h
   have e : i.toNat = j := Option.some.inj h
   exact ⟨by rw [seqIndex_of h0 h1, e], by lia, by lia, h1⟩
  ·rw [if_neg h1] at h; cases h
 ·rw [if_neg h0] at h
  by_cases h1 : -(n : Int) ≤ i
  ·rw [if_pos h1] at h
   have e : (i + n).toNat = j := Option.some.inj h
   exact ⟨by rw [seqIndex_neg (by lia) h1, e], by lia, h1, by lia⟩
  ·rw [if_neg h1] at h; cases h
theorem atI_get {α : Type} {xs : List α} {i : Int} {v : α} (h : atI xs i = some v) : ∃ j, seqIndex? i xs.length = some j ∧ xs[j]? = some v ∧ j < xs.length ∧ -(xs.length : Int) ≤ i ∧ i < xs.length := by
 unfold atI at h
 cases e : ixN xs.length i with
 | none => rw [e] at h; cases h
 | some j =>
  rw [e] at h
  obtain ⟨h1, h2, h3, h4⟩ := ixN_seq e
  exact ⟨j, h1, h, h2, h3, h4⟩
noncomputable def PlainIx (b : Expr) : Prop := ∀ o i, subscripted b false o i = operate [o, i] (getItem o i)
noncomputable def IxR (X : Cx) (r : R2) : Prop :=
 ∀ (value slice : Expr) (pins : List (Addr × Obj)) (s : Shared) (σ : St) (H : Hp) (x y : V) (v u : Value) (Q : VK), Inv X pins σ H s → RelV x v → RelV y u → r x y H Q →
  subscripted slice false v u = operate [v, u] (getItem v u) → wpAny (model X.prog X.w) X.A (subscriptTail value slice v u) (EP X pins σ Q) X.xe s
noncomputable def MtR (X : Cx) (id : String) (r : V → List V → Hp → VK → Prop) : Prop :=
 ∀ (pins : List (Addr × Obj)) (s : Shared) (σ : St) (H : Hp) (x : V) (xs : List V) (v : Value) (us : List Value) (Q : VK), Inv X pins σ H s → RelV x v → Vals xs us → r x xs H Q →
  wpAny (model X.prog X.w) X.A (call (.builtin id) (v :: us)) (EP X pins σ Q) X.xe s
section
variable {X : Cx} {a b : Expr} {ta tb : TE} {pos : Pos}
theorem IxR.or {r r' : R2} (h : IxR X r) (h' : IxR X r') : IxR X (fun x y H Q => r x y H Q ∨ r' x y H Q) := by
 intro value slice pins s σ H x y v u Q I rx ry q hs
 rcases q with q | q
 ·exact h value slice pins s σ H x y v u Q I rx ry q hs
 ·exact h' value slice pins s σ H x y v u Q I rx ry q hs
theorem pe_ix {r : R2} (hr : IxR X r) (ha : PE X a ta) (hb : PE X b tb) (hs : PlainIx b) : PE X (.Subscript a b pos) (tOp r ta tb) := by
 intro pins s σ H Q I h
 exact Subscript_ (binT ha hb I h fun v u s2 x y H2 I2 rx ry q => hr a b pins s2 σ H2 x y v u Q I2 rx ry q (hs _ _))
noncomputable def rIxL (K : PySem.W.Frag) : R2 := fun x y H Q => ∃ p xs i v, x = .ref p ∧ y = .int i ∧ SqL K H p xs ∧ atI xs i = some v ∧ Q v H
noncomputable def rIxT (K : PySem.W.Frag) : R2 := fun x y H Q => ∃ p xs i v, x = .ref p ∧ y = .int i ∧ SqT K H p xs ∧ atI xs i = some v ∧ Q v H
noncomputable def rIxS : R2 := fun x y H Q => ∃ z i c, x = .str z ∧ y = .int i ∧ z.length ≤ sizeLine ∧ atI z.cps.toList i = some c ∧ Q (.str ⟨#[c]⟩) H
theorem ix_list : IxR X (rIxL X.K) := by
 intro value slice pins s σ H x y v u Q I rx ry h hs
 obtain ⟨p, xs, i, z, rfl, rfl, hq, he, q⟩ := h
 cases rx
 obtain ⟨t, rfl⟩ := ry
 obtain ⟨its, r, pl, hz⟩ := I.list hq
 obtain ⟨j, h1, h2, h3, h4, h5⟩ := atI_get he
 obtain ⟨w, ew, rw'⟩ := r.get h2
 have hl := r.length
 have hn := line63
 have fin : EP X pins σ Q w s := ⟨z, H, I, rw', q⟩
 by_cases h0 : 0 ≤ i
 ·have hj : i.toNat = j := by
   rw [seqIndex_of h0 h5] at h1
   exact Option.some.inj h1
  exact item_listR pl.isList h0 (by lia) (by rw [hj]; simpa using ew) fin hs
 ·have hj : (i + (its.toArray.size : Int)).toNat = j := by
   rw [seqIndex_neg (by lia) h4] at h1
   rw [List.size_toArray, ← hl]
   exact Option.some.inj h1
  exact subscriptTail_builtinR (x := w) pl.isList.typeIs slot_list_getitem.lookup
   (wpAny_getItem_list_neg (Q := fun r s' => r = w ∧ EP X pins σ Q r s') pl.isList (by lia) (by rw [List.size_toArray] <;> lia) (by lia) (by rw [hj]; simpa using ew) ⟨rfl, fin⟩) hs
theorem ix_tup : IxR X (rIxT X.K) := by
 intro value slice pins s σ H x y v u Q I rx ry h hs
 obtain ⟨p, xs, i, z, rfl, rfl, hq, he, q⟩ := h
 cases rx
 obtain ⟨t, rfl⟩ := ry
 obtain ⟨its, r, pl, hz⟩ := I.tuple hq
 obtain ⟨j, h1, h2, h3, h4, h5⟩ := atI_get he
 obtain ⟨w, ew, rw'⟩ := r.get h2
 have hl := r.length
 have hn := line63
 have fin : EP X pins σ Q w s := ⟨z, H, I, rw', q⟩
 exact subscriptTail_builtinR (x := w) pl.typeIs slot_tuple_getitem.lookup
  (getItem_tuple (j := j) (Q := fun r s' => r = w ∧ EP X pins σ Q r s') pl (by lia) (by lia) (by rw [List.size_toArray, ← hl]; exact h1) (by simpa using ew) ⟨rfl, fin⟩) hs
theorem ix_str : IxR X rIxS := by
 intro value slice pins s σ H x y v u Q I rx ry h hs
 obtain ⟨z, i, c, rfl, rfl, hz, he, q⟩ := h
 obtain ⟨t, rfl⟩ := rx
 obtain ⟨t', rfl⟩ := ry
 obtain ⟨j, h1, h2, h3, h4, h5⟩ := atI_get he
 have hl : z.cps.toList.length = z.length := by simp [Str.length]
 rw [hl] at h1 h4 h5
 have hn := line63
 exact tail_any (typeIs_str s z t) slot_str_getitem.lookup (getItem_str (c := c) (by
  have e1 : decide (i < -(2 ^ 63 : Int)) = false := decide_eq_false (by lia)
  have e2 : decide (i ≥ 2 ^ 63) = false := decide_eq_false (by lia)
  rw [e1, e2, Bool.or_false]) (by rw [h1]; simpa using h2) ⟨.str ⟨#[c]⟩, H, I.tok _, ⟨_, rfl⟩, q⟩) hs
noncomputable def rIx (K : PySem.W.Frag) : R2 := fun x y H Q => rIxL K x y H Q ∨ rIxT K x y H Q ∨ rIxS x y H Q
theorem ix_seq : IxR X (rIx X.K) := ix_list.or (ix_tup.or ix_str)
theorem mapSeq_set (its : List Value) (n j : Nat) (u : Value) : Obj.mapSeq (·.setIfInBounds j u) { cls := .type "list", data := .seq its.toArray n } = { cls := .type "list", data := .seq (its.set j u).toArray n } := by
 simp [Obj.mapSeq]
theorem Inv.lst {pins : List (Addr × Obj)} {σ : St} {H : Hp} {s : Shared} {p : Addr} {xs : List V} (I : Inv X pins σ H s) (h : H p = some (.lst xs)) :
  ∃ (its : List Value) (n : Nat), Vals xs its ∧ s.heap.get? p = some { cls := .type "list", data := .seq its.toArray n } ∧ xs.length ≤ sizeLine := by
 obtain ⟨z, its, n, r, e⟩ := I.hok p _ h
 exact ⟨its, n, r, e, z⟩
theorem Inv.lstUpd {pins : List (Addr × Obj)} {σ : St} {H : Hp} {s : Shared} {p : Addr} {xs ys : List V} {its its' : List Value} {n n' : Nat} {f : Obj → Obj} (I : Inv X pins σ H s) (h : H p = some (.lst xs))
  (ho : s.heap.get? p = some { cls := .type "list", data := .seq its.toArray n }) (hf : f { cls := .type "list", data := .seq its.toArray n } = { cls := .type "list", data := .seq its'.toArray n' }) (r : Vals ys its') (hz : ys.length ≤ sizeLine) (t : Nat) :
  Inv X pins σ (upd H p (.lst ys)) { s with heap := s.heap.update p f, toks := t } := by
 have e : (s.heap.update p f).get? p = some { cls := .type "list", data := .seq its'.toArray n' } := by
  rw [Heap.get?_update_self f ho (by rw [hf] <;> rfl), hf]
 refine I.write (x := p) (e := p) (by rw [h]; trivial) (.inl rfl) (fun b u hb q => (Heap.get?_update_other _ _ (Ne.symm hb)).trans q) ⟨_, e⟩ ?_
 exact ⟨hz, its', n', r, e⟩
noncomputable def rSetL : V → V → V → Hp → (Hp → Prop) → Prop := fun o i v H Q => ∃ p xs k j, o = .ref p ∧ i = .int k ∧ H p = some (.lst xs) ∧ ixN xs.length k = some j ∧ Q (upd H p (.lst (xs.set j v)))
theorem set_list : PSet X rSetL := by
 intro pins s σ H o i v ov iv u Q I ro ri rv h
 obtain ⟨p, xs, k, j, rfl, rfl, hp, hj, q⟩ := h
 cases ro
 obtain ⟨t, rfl⟩ := ri
 obtain ⟨its, n, r, ho, hz⟩ := I.lst hp
 obtain ⟨h1, h2, h3, h4⟩ := ixN_seq hj
 have hl := r.length
 have hn := line63
 have I' : Inv X pins σ (upd H p (.lst (xs.set j v))) { s with heap := s.heap.update p (Obj.mapSeq (·.setIfInBounds j u)) } :=
  I.lstUpd hp ho (mapSeq_set its n j u) (r.set rv j) (by rw [List.length_set]; exact hz) s.toks
 by_cases h0 : 0 ≤ k
 ·have hk : k.toNat = j := by
   rw [seqIndex_of h0 h4] at h1
   exact Option.some.inj h1
  exact PySem.W.ki_setAt ho h0 (by lia) (by rw [List.size_toArray, ← hl]; exact h4) (by rw [hk]; exact ⟨_, I', q⟩)
 ·have hk : (k + (its.toArray.size : Int)).toNat = j := by
   rw [seqIndex_neg (by lia) h3] at h1
   rw [List.size_toArray, ← hl]
   exact Option.some.inj h1
  exact PySem.W.ki_setBack ho (by lia) (by rw [List.size_toArray, ← hl]; exact h3) (by lia) (by rw [hk]; exact ⟨_, I', q⟩)
theorem call_len_seq : CallR X (.builtin "len") (fun xs H Q => ∃ p ys, xs = [.ref p] ∧ (SqL X.K H p ys ∨ SqT X.K H p ys) ∧ Q (.int ys.length) H) := by
 intro pins s σ H xs us Q I r h
 obtain ⟨p, ys, rfl, hq, q⟩ := h
 obtain ⟨u, rfl, rx⟩ := vals1 r
 cases rx
 have hn := line63
 rcases hq with hq | hq
 ·obtain ⟨its, r', pl, hz⟩ := I.list hq
  have hlen := r'.length
  exact Calls.call_len_list pl.isList (by simp only [List.size_toArray] <;> lia) ⟨.int ys.length, H, I.tok _, ⟨s.toks + 1, by rw [List.size_toArray, hlen]⟩, q⟩
 ·obtain ⟨its, r', pl, hz⟩ := I.tuple hq
  have hlen := r'.length
  exact len_tuple pl (by simp only [List.size_toArray] <;> lia) ⟨.int ys.length, H, I.tok _, ⟨s.toks + 1, by rw [List.size_toArray, hlen]⟩, q⟩
theorem call_len_str : CallR X (.builtin "len") (fun xs H Q => ∃ z, xs = [.str z] ∧ z.length ≤ sizeLine ∧ Q (.int z.length) H) := by
 intro pins s σ H xs us Q I r h
 obtain ⟨z, rfl, hz, q⟩ := h
 obtain ⟨u, rfl, t, rfl⟩ := vals1 r
 have hn := line63
 exact len_str (by lia) ⟨.int z.length, H, I.tok _, ⟨_, rfl⟩, q⟩
theorem CallR.or {f : Value} {r r' : List V → Hp → VK → Prop} (h : CallR X f r) (h' : CallR X f r') : CallR X f (fun xs H Q => r xs H Q ∨ r' xs H Q) := by
 intro pins s σ H xs us Q I rs q
 rcases q with q | q
 ·exact h pins s σ H xs us Q I rs q
 ·exact h' pins s σ H xs us Q I rs q
theorem call_list_of : CallR X (.type "list") (fun xs H Q => ∃ p ys, xs = [.ref p] ∧ (SqL X.K H p ys ∨ SqT X.K H p ys) ∧ ∀ l, H l = none → Q (.ref l) (upd H l (.lst ys))) := by
 intro pins s σ H xs us Q I r h
 obtain ⟨p, ys, rfl, hq, q⟩ := h
 obtain ⟨u, rfl, rx⟩ := vals1 r
 cases rx
 have fin : ∀ (its : List Value), Vals ys its → ys.length ≤ sizeLine → ∀ (h' : Heap) (c' : Nat), (∀ b o', s.heap.get? b = some o' → h'.get? b = some o') →
   h'.get? s.heap.objs.size = some { cls := .type "list", dict := none, data := .seq its.toArray c', slots := #[] } → EP X pins σ Q (.ref s.heap.objs.size) { s with heap := h' } := fun its r' hz h' c' kp e =>
  ⟨.ref s.heap.objs.size, _, I.laid (t' := s.toks) kp (Nat.le_refl _) (show ObjOk X.prog X.w _ h' _ (.lst ys) from ⟨hz, its, c', r', e⟩), rfl, q _ (I.hok.fresh (Nat.le_refl _))⟩
 rcases hq with hq | hq
 ·obtain ⟨its, r', pl, hz⟩ := I.list hq
  have hlen := r'.length
  obtain ⟨o, ho, hc, n, hd⟩ := pl.isList
  exact call_list_seq p (.inl rfl) ho hc hd (fun h' c' kp e => fin its r' hz h' c' kp e) (by simp only [List.size_toArray] <;> lia)
 ·obtain ⟨its, r', pl, hz⟩ := I.tuple hq
  have hlen := r'.length
  obtain ⟨o, ho, hc, n, hd⟩ := pl
  exact call_list_seq p (.inr rfl) ho hc hd (fun h' c' kp e => fin its r' hz h' c' kp e) (by simp only [List.size_toArray] <;> lia)
theorem call_tuple_of : CallR X (.type "tuple") (fun xs H Q => ∃ p ys, xs = [.ref p] ∧ ((SqL X.K H p ys ∧ ∀ l, H l = none → Q (.ref l) (upd H l (.tup ys))) ∨ (SqT X.K H p ys ∧ Q (.ref p) H))) := by
 intro pins s σ H xs us Q I r h
 obtain ⟨p, ys, rfl, h⟩ := h
 obtain ⟨u, rfl, rx⟩ := vals1 r
 cases rx
 rcases h with ⟨hq, q⟩ | ⟨hq, q⟩
 ·obtain ⟨its, r', pl, hz⟩ := I.list hq
  have hlen := r'.length
  refine call_tuple_list pl.isList (fun h' kp => ?_) (by simp only [List.size_toArray] <;> lia)
  have I1 : Inv X pins σ H { s with heap := h' } := I.kept (t' := s.toks) kp
  have I2 : Inv X pins σ (upd H h'.objs.size (.tup ys)) { s with heap := h'.push { cls := .type "tuple", data := .seq its.toArray } } :=
   I1.laid (t' := s.toks) (fun b o e => Heap.get?_push_of_some _ e) (Nat.le_refl _) (show ObjOk X.prog X.w _ _ _ (.tup ys) from ⟨hz, its, r', IsTup.new _ _⟩)
  exact ⟨.ref h'.objs.size, _, I2, rfl, q _ (I1.hok.fresh (Nat.le_refl _))⟩
 ·obtain ⟨its, r', pl, hz⟩ := I.tuple hq
  exact call_tuple_same pl ⟨.ref p, H, I, rfl, q⟩
noncomputable def tyV (K : PySem.W.Frag) (T : String) (x : V) (H : Hp) : Prop := match x with
 | .str _ => T = "str"
 | .int _ => T = "int"
 | .ref p => (T = "list" ∧ ∃ xs, SqL K H p xs) ∨ (T = "tuple" ∧ ∃ o, K.lookup p = some o ∧ o.cls = .type "tuple" ∧ o.dict = none) ∨
   (T = "dict" ∧ ((∃ kvs, H p = some (.dK kvs)) ∨ ∃ kvs, H p = some (.dT kvs))) ∨ (T = "set" ∧ ∃ S n, H p = some (.set S n))
 | _ => False
theorem tyV_is {pins : List (Addr × Obj)} {σ : St} {H : Hp} {s : Shared} {T : String} {x : V} {v : Value} (I : Inv X pins σ H s) (r : RelV x v) (ty : tyV X.K T x H) :
  s.TypeIs v T ∧ ∀ a, v = .ref a → ∃ ob, s.heap.get? a = some ob ∧ ob.dict = none := by
 cases x with
 | str z =>
  obtain ⟨t, rfl⟩ := r
  cases (show T = "str" from ty)
  exact ⟨typeIs_str s z t, fun _ e => nomatch e⟩
 | int i =>
  obtain ⟨t, rfl⟩ := r
  cases (show T = "int" from ty)
  exact ⟨typeIs_int s i t, fun _ e => nomatch e⟩
 | ref p =>
  cases r
  rcases ty with ⟨rfl, xs, hq⟩ | ⟨rfl, o, hk, hc, hd⟩ | ⟨rfl, hk⟩ | ⟨rfl, S, n, hk⟩
  ·obtain ⟨its, _, pl, _⟩ := I.list hq
   refine ⟨pl.isList.typeIs, fun a e => ?_⟩
   cases e
   obtain ⟨o, n, e, c, hd, _⟩ := pl
   exact ⟨o, e, hd⟩
  ·refine ⟨⟨o, I.kIn p o hk, hc⟩, fun a e => ?_⟩
   cases e
   exact ⟨o, I.kIn _ o hk, hd⟩
  ·have z : ∃ o, s.heap.get? p = some o ∧ o.ExactDict := by
    rcases hk with ⟨kvs, hk⟩ | ⟨kvs, hk⟩
    ·obtain ⟨_, _, _, _, o, _, e, ex, _⟩ := I.hok p _ hk
     exact ⟨o, e, ex⟩
    ·obtain ⟨_, _, _, _, o, _, _, e, ex, _⟩ := I.hok p _ hk
     exact ⟨o, e, ex⟩
   obtain ⟨o, e, ex⟩ := z
   refine ⟨⟨o, e, ex.1⟩, fun a e2 => ?_⟩
   cases e2
   exact ⟨o, e, ex.2.1⟩
  ·obtain ⟨o, _, _, _, e, ex, _⟩ := I.hok p _ hk
   refine ⟨⟨o, e, ex.1⟩, fun a e2 => ?_⟩
   cases e2
   exact ⟨o, e, ex.2.1⟩
 | _ => exact False.elim ty
noncomputable def tBM (K : PySem.W.Frag) (T : String) (r : V → List V → Hp → VK → Prop) (to : TE) (t : TA) : TE := fun σ H Q => to σ H fun x H1 => tyV K T x H1 ∧ t σ H1 fun xs H2 => r x xs H2 Q
variable {o e : Expr} {es : List Expr} {to : TE} {t : TA} {name : Str} {apos cpos : Pos} {T id : String} {r : V → List V → Hp → VK → Prop}
theorem pe_bm (pa : PlainAttrs T) (slot : Slot T name id) (hty : typeOf (.builtin id) = pure (.type "method_descriptor")) (hm : MtR X id r) (ho : PE X o to) (ha : PA X (e :: es) t)
  (hbase : attributeBase o name X.env (eval o X.env) = eval o X.env := by rfl)
  (hfew : ((backTo cpos (starEach (e :: es) X.env)).all (fun x => !x.1) && (backToKw cpos (keywordEach [] X.env)).all (fun x => x.1.isSome)
   && decide ((e :: es).length + ([] : List Keyword).length + (if ([] : List Keyword).isEmpty then 0 else 1) < 30)) = true := by rfl)
  (hline : (apos.endLine == cpos.line) = true := by rfl) (hs : starEach (e :: es) X.env = (false, eval e X.env) :: starEach es X.env := by rfl) (hplain : (backTo cpos (starEach es X.env)).any (·.1) = false := by rfl) :
  PE X (.Call (.Attribute o name apos) (e :: es) [] cpos) (tBM X.K T r to t) := by
 intro pins s σ H Q I h
 refine wpAny_Call_method_late hbase hfew hline rfl (thn (ho pins s σ H _ I h) fun v s1 hX11_ => ?_)
 obtain ⟨x, H1, I1, r1, ty, q1⟩ := hX11_
 obtain ⟨h1, h2⟩ := tyV_is I1 r1 ty
 refine ⟨T, id, pa, slot, hty, h1, h2, ?_⟩
 have hA := ha cpos pins s1 σ H1 _ I1 q1
 rw [hs] at hA ⊢
 refine Calls.callWith_builtin (by show (false || (backTo cpos (starEach es X.env)).any (·.1)) = false; rw [hplain] <;> rfl) (Calls.evalArgs_plain ?_)
 exact thn hA fun us s2 ⟨vs, H2, I2, r2, q2⟩ => hm pins s2 σ H2 x vs v us Q I2 r1 r2 q2
/- xs.append(e), list.index on a module's tuple .. are MtR facts of 06m -/
end
end L2
namespace L2
open PySem PySem.Spec PyProof.Rows
noncomputable def MtM (X : Cx) (id : String) (r : V → List V → Hp → VK → Prop) : Prop :=
 ∀ (pins : List (Addr × Obj)) (s : Shared) (σ : St) (H : Hp) (x : V) (xs : List V) (v : Value) (us : List Value) (Q : VK), Inv X pins σ H s → RelV x v → Vals xs us → r x xs H Q →
  wpAny (model X.prog X.w) X.A (call (.builtin id) (v :: us)) (EP X pins σ Q) X.xe s
theorem Vals.one : ∀ {x : V} {us : List Value}, Vals [x] us → ∃ u, us = [u] ∧ RelV x u
 | _, _, .cons r .nil => ⟨_, rfl, r⟩
theorem Vals.dropLast {xs : List V} {us : List Value} (h : Vals xs us) : Vals xs.dropLast us.dropLast := by
 induction h with
 | nil => exact .nil
 | cons r t ih =>
  cases t with
  | nil => exact .nil
  | cons q t' => exact .cons r ih
theorem Vals.reverse {xs : List V} {us : List Value} (h : Vals xs us) : Vals xs.reverse us.reverse := by
 induction h with
 | nil => exact .nil
 | cons r t ih => rw [List.reverse_cons, List.reverse_cons]; exact Vals.append ih (.cons r .nil)
theorem Vals.rep {xs : List V} {us : List Value} (h : Vals xs us) : ∀ k : Nat, Vals (List.replicate k xs).flatten (List.replicate k us).flatten
 | 0 => .nil
 | k + 1 => by
  rw [List.replicate_succ, List.replicate_succ, List.flatten_cons, List.flatten_cons]
  exact Vals.append h (Vals.rep h k)
theorem foldl_rep (its : List Value) : ∀ (k : Nat) (acc : List Value),
  List.foldl (fun x1 x2 => x1 ++ x2) acc.toArray (List.replicate k its.toArray) = (acc ++ (List.replicate k its).flatten).toArray
 | 0, acc => by simp
 | k + 1, acc => by
  have e : acc.toArray ++ its.toArray = (acc ++ its).toArray := by simp
  have e2 : (acc ++ its) ++ (List.replicate k its).flatten = acc ++ (List.replicate (k + 1) its).flatten := by
   rw [List.replicate_succ, List.flatten_cons, List.append_assoc]
  rw [← e2, ← foldl_rep its k (acc ++ its), ← e, List.replicate_succ, List.foldl_cons]
section
variable {X : Cx} {pins : List (Addr × Obj)} {σ : St} {H : Hp} {s : Shared} {l b : Addr} {xs ys zs : List V}
theorem Inv.lset {its its' : List Value} {n : Nat} {f : Array Value → Array Value} {t' : Nat} (I : Inv X pins σ H s) (hH : H l = some (.lst xs))
  (e : s.heap.get? l = some { cls := .type "list", data := .seq its.toArray n }) (hf : f its.toArray = its'.toArray) (hv : Vals ys its') (hz : ys.length ≤ sizeLine) :
  Inv X pins σ (upd H l (.lst ys)) { s with heap := s.heap.update l (Obj.mapSeq f), toks := t' } := by
 have q := PySem.IsL.update e f
 rw [hf] at q
 refine I.write (x := l) (e := l) (by rw [hH]; exact trivial) (.inl rfl) (fun b' u hb hu => (Heap.get?_update_other s.heap (Obj.mapSeq f) (Ne.symm hb)).trans hu) ⟨_, q⟩ ?_
 exact ⟨hz, its', _, hv, q⟩
theorem Inv.lnew {its : List Value} {t' : Nat} (I : Inv X pins σ H s) (hv : Vals ys its) (hz : ys.length ≤ sizeLine) :
  Inv X pins σ (upd H s.heap.objs.size (.lst ys)) { s with heap := s.heap.push { cls := .type "list", data := .seq its.toArray }, toks := t' } :=
 I.laid (fun _ _ q => Heap.get?_push_of_some _ q) (Nat.le_refl _) ⟨hz, its, 0, hv, Heap.get?_push_size _ rfl⟩
theorem Inv.fresh (I : Inv X pins σ H s) : H s.heap.objs.size = none := I.hok.fresh (Nat.le_refl _)
theorem Inv.lstM (I : Inv X pins σ H s) (hH : H l = some (.lst xs)) : xs.length ≤ sizeLine ∧ ∃ (its : List Value) (n : Nat), Vals xs its ∧ xs.length = its.length ∧ s.heap.get? l = some { cls := .type "list", data := .seq its.toArray n } := by
 obtain ⟨z, its, n, r, e⟩ := I.hok l _ hH
 exact ⟨z, its, n, r, r.length, e⟩
theorem notLongL {n : Nat} (h : n ≤ sizeLine) : Builtin.List.listTooLong n = false := by
 unfold Builtin.List.listTooLong
 exact decide_eq_false (by lia)
end
section
variable {X : Cx}
noncomputable def rAppend : V → List V → Hp → VK → Prop := fun x vs H Q => ∃ l xs y, x = .ref l ∧ vs = [y] ∧ H l = some (.lst xs) ∧ xs.length < sizeLine ∧ Q .non (upd H l (.lst (xs ++ [y])))
theorem mt_append : MtM X "list.append" rAppend := by
 intro pins s σ H x vs v us Q I rx rv h
 obtain ⟨l, xs, y, rfl, rfl, hH, hz, q⟩ := h
 cases rx
 obtain ⟨u, rfl, ru⟩ := rv.one
 obtain ⟨z, its, n, r, hl, e⟩ := I.lstM hH
 refine call_meets F.slot_list_append ⟨_, e, rfl⟩ F.entry_list_append (F.args_list_append_2 _ _) (PySem.list_append l its.toArray n u (by rw [List.size_toArray]; lia)) ⟨e, ?_⟩
 refine ⟨.non, _, I.lset (its' := its ++ [u]) hH e (by simp) (r.append (.cons ru .nil)) ?_, rfl, q⟩
 rw [List.length_append, List.length_singleton]
 lia
noncomputable def rRep : R2 := fun x y H Q => ∃ l k xs, x = .ref l ∧ y = .int k ∧ H l = some (.lst xs) ∧ -(2 ^ 63) ≤ k ∧ k < 2 ^ 63 ∧ xs.length * k.toNat ≤ sizeLine ∧
 ∀ p, H p = none → Q (.ref p) (upd H p (.lst (List.replicate k.toNat xs).flatten))
theorem len_rep {α : Type} (xs : List α) (k : Nat) : (List.replicate k xs).flatten.length = k * xs.length := by
 induction k with
 | zero => simp
 | succ k ih => rw [List.replicate_succ, List.flatten_cons, List.length_append, ih, Nat.succ_mul, Nat.add_comm]
theorem op_rep : OpR X (binaryOp .Mult) rRep := by
 intro pins s σ H x y v u Q I rx ry h
 obtain ⟨l, k, xs, rfl, rfl, hH, h1, h2, hz, q⟩ := h
 cases rx
 obtain ⟨t, rfl⟩ := ry
 obtain ⟨z, its, n, r, hl, e⟩ := I.lstM hH
 have hlen : its.toArray.size * k.toNat ≤ sizeLine := by rw [List.size_toArray, ← hl]; exact hz
 have hcap : ¬ its.toArray.size * k.toNat > (2 ^ 63 - 1) / 8 := by
  have : (sizeLine : Nat) ≤ (2 ^ 63 - 1) / 8 := by decide
  lia
 have hfit : ¬ (!Builtin.List.listFitsIndex k) = true := by
  rw [fitsIndex_both h1 h2]
  exact Bool.false_ne_true
 have hlong : ¬ Builtin.List.listTooLong (its.toArray.size * k.toNat) = true := by
  rw [notLongL hlen]
  exact Bool.false_ne_true
 have hnew : List.foldl (fun x1 x2 => x1 ++ x2) #[] (List.replicate (if its.toArray.isEmpty = true then 0 else k.toNat) its.toArray) = (List.replicate k.toNat its).flatten.toArray := by
  have f0 : ∀ m : Nat, List.foldl (fun x1 x2 => x1 ++ x2) #[] (List.replicate m its.toArray) = (List.replicate m its).flatten.toArray := fun m => by
   have := foldl_rep its m []
   rw [List.nil_append] at this
   exact this
  rw [f0]
  cases its with
  | nil => simp
  | cons a r' => rw [if_neg (by simp)]
 refine wpAny_binaryOp_repeat_ref (T := "list") (U := "int") (by decide) ⟨_, e, rfl⟩ (fun s' => typeIs_int s' k t) noFill_list_mul F.fills_int_mul F.slot_int_rmul repeat_list F.slot_int_index.lookup
  (call_meets F.slot_int_rmul (typeIs_int s k t) F.entry_int_rmul (F.args_int_rmul_2 _ _) (int___rmul___int_list k t l its.toArray n)
   ⟨e, rfl, ⟨_, e, rfl⟩, call_meets F.slot_list_mul ⟨_, e, rfl⟩ F.entry_list_mul (F.args_list_mul_2 _ _) (AutoListH.list___mul___list_int_3 l its.toArray n k t hfit hcap hlong) ⟨e, ?_⟩⟩)
 rw [hnew]
 exact ⟨.ref _, _, I.lnew (t' := s.toks) (r.rep k.toNat) (by rw [len_rep, Nat.mul_comm]; exact hz), rfl, q _ I.fresh⟩
end
section
variable {prog : Program} {w : World} {A : Around} {E : Value → Shared → Prop} {s : Shared}
end
section
variable {X : Cx}
end
end L2
namespace L2
open PySem PySem.Spec PyProof.Rows
section
variable {κ : Type} [DecidableEq κ]
noncomputable def valV (kvs : List (κ × V)) (k : κ) : Option V := (kvs.find? fun kv => decide (kv.1 = k)).map (·.2)
noncomputable def putK (kvs : List (κ × V)) (k : κ) (v : V) : List (κ × V) :=
 if (kvs.any fun kv => decide (kv.1 = k)) = true then kvs.map (fun kv => if kv.1 = k then (kv.1, v) else kv) else kvs ++ [(k, v)]
theorem valV_pos {p : κ × V} {r : List (κ × V)} {k : κ} (e : p.1 = k) : valV (p :: r) k = some p.2 := by simp [valV, List.find?_cons, e]
theorem valV_neg {p : κ × V} {r : List (κ × V)} {k : κ} (e : ¬ p.1 = k) : valV (p :: r) k = valV r k := by simp [valV, List.find?_cons, e]
theorem valV_any (k : κ) : ∀ kvs : List (κ × V), (kvs.any fun kv => decide (kv.1 = k)) = (valV kvs k).isSome
 | [] => rfl
 | p :: r => by
  rw [List.any_cons]
  by_cases e : p.1 = k
  ·simp only [valV_pos e, decide_eq_true e, Bool.true_or, Option.isSome_some]
  ·rw [valV_neg e, decide_eq_false e, Bool.false_or]; exact valV_any k r
theorem length_putK (kvs : List (κ × V)) (k : κ) (v : V) : (putK kvs k v).length ≤ kvs.length + 1 := by
 unfold putK
 split
 ·rw [List.length_map]; lia
 ·rw [List.length_append, List.length_cons, List.length_nil]; lia
theorem RelO.isSome_eq {o : Option V} {u : Option Value} (r : RelO o u) : o.isSome = u.isSome := by
 cases o with
 | none => cases u with
  | none => rfl
  | some _ => exact (show False from r).elim
 | some _ => cases u with
  | none => exact (show False from r).elim
  | some _ => rfl
theorem RelO.getD {o : Option V} {u : Option Value} {d : V} {d' : Value} (r : RelO o u) (rd : RelV d d') : RelV (o.getD d) (u.getD d') := by
 cases o with
 | none => cases u with
  | none => exact rd
  | some _ => exact (show False from r).elim
 | some _ => cases u with
  | none => exact (show False from r).elim
  | some _ => exact r
theorem KV.val {kvs : List (κ × V)} {vs : List (κ × Value)} (r : KV kvs vs) (k : κ) : RelO (valV kvs k) (valueAt vs k) := by
 unfold KV at r
 induction r with
 | nil => exact True.intro
 | @cons p q ps qs h t ih =>
  obtain ⟨h1, h2⟩ := h
  by_cases e : p.1 = k
  ·have e' : q.1 = k := h1.symm.trans e
   have b : valueAt (q :: qs) k = some q.2 := by simp [valueAt, List.find?_cons, e']
   rw [valV_pos e, b]; exact h2
  ·have e' : ¬ q.1 = k := fun z => e (h1.trans z)
   have b : valueAt (q :: qs) k = valueAt qs k := by simp [valueAt, List.find?_cons, e']
   rw [valV_neg e, b]; exact ih
theorem KV.any {kvs : List (κ × V)} {vs : List (κ × Value)} (r : KV kvs vs) (k : κ) : (kvs.any fun kv => decide (kv.1 = k)) = vs.any fun kv => decide (kv.1 = k) := by
 unfold KV at r
 induction r with
 | nil => rfl
 | cons h t ih => rw [List.any_cons, List.any_cons, ih, h.1]
theorem KV.repl {kvs : List (κ × V)} {vs : List (κ × Value)} (r : KV kvs vs) (k : κ) {y : V} {u : Value} (ry : RelV y u) :
  KV (kvs.map fun kv => if kv.1 = k then (kv.1, y) else kv) (vs.map fun kv => if kv.1 = k then (kv.1, u) else kv) := by
 unfold KV at r ⊢
 induction r with
 | nil => exact .nil
 | @cons p q ps qs h t ih =>
  rw [List.map_cons, List.map_cons]
  refine .cons ?_ ih
  obtain ⟨h1, h2⟩ := h
  by_cases e : p.1 = k
  ·rw [if_pos e, if_pos (h1.symm.trans e)]; exact ⟨h1, ry⟩
  ·rw [if_neg e, if_neg (fun z => e (h1.trans z))]; exact ⟨h1, h2⟩
theorem KV.put {kvs : List (κ × V)} {vs : List (κ × Value)} (r : KV kvs vs) (k : κ) {y : V} {u : Value} (ry : RelV y u) : KV (putK kvs k y) (stored vs k u) := by
 unfold putK stored
 rw [r.any k]
 by_cases e : (vs.any fun kv => decide (kv.1 = k)) = true
 ·rw [if_pos e, if_pos e]; exact r.repl k ry
 ·rw [if_neg e, if_neg e]; exact Paired.snoc r ⟨rfl, ry⟩
theorem KV.length {kvs : List (κ × V)} {vs : List (κ × Value)} (r : KV kvs vs) : kvs.length = vs.length := Paired.length r
end
theorem kV_is {P : Program} {w : World} {k : Key} {u : Value} (r : RelV (kV k) u) : (mixKind P w).is k u = true := by
 cases k with
 | inl i => obtain ⟨t, e⟩ := (show ∃ t, u = Value.int i t from r); subst e; exact mixKind_int P w i t
 | inr x => obtain ⟨t, e⟩ := (show ∃ t, u = Value.str x t from r); subst e; exact mixKind_str P w x t
theorem items_are {P : Program} {w : World} : ∀ {ks : List Key} {us : List Value}, Vals (ks.map kV) us → ItemsAre (mixKind P w) ks us
 | [], _, r => by rw [List.map_nil] at r; cases r; exact .nil
 | k :: ks, _, r => by
  rw [List.map_cons] at r
  cases r with
  | cons h t => exact .cons (kV_is h) (items_are t)
noncomputable abbrev KT (H : Hp) : List (List Key × V) → List (List Key × Addr × Value) → Prop := Paired fun p q => p.1 = q.1 ∧ H q.2.1 = some (.tup (p.1.map kV)) ∧ RelV p.2 q.2.2
theorem KT.val {H : Hp} {kvs : List (List Key × V)} {xs : List (List Key × Addr × Value)} (r : KT H kvs xs) (k : List Key) : RelO (valV kvs k) ((atKey xs k).map (·.2)) := by
 induction r with
 | nil => exact True.intro
 | @cons p q ps qs h t ih =>
  obtain ⟨h1, _, h2⟩ := h
  by_cases e : p.1 = k
  ·have e' : q.1 = k := h1.symm.trans e
   have b : atKey (q :: qs) k = some q.2 := by simp [atKey, List.find?_cons, e']
   rw [valV_pos e, b]; exact h2
  ·have e' : ¬ q.1 = k := fun z => e (h1.trans z)
   have b : atKey (q :: qs) k = atKey qs k := by simp [atKey, List.find?_cons, e']
   rw [valV_neg e, b]; exact ih
theorem KT.repl {H : Hp} {kvs : List (List Key × V)} {xs : List (List Key × Addr × Value)} (r : KT H kvs xs) (k : List Key) {y : V} {u : Value} (ry : RelV y u) :
  KT H (kvs.map fun kv => if kv.1 = k then (kv.1, y) else kv) (xs.map (putAt k u)) := by
 induction r with
 | nil => exact .nil
 | @cons p q ps qs h t ih =>
  rw [List.map_cons, List.map_cons]
  refine .cons ?_ ih
  obtain ⟨h1, h2, h3⟩ := h
  unfold putAt
  by_cases e : p.1 = k
  ·rw [if_pos e, if_pos (h1.symm.trans e)]; exact ⟨h1, h2, ry⟩
  ·rw [if_neg e, if_neg (fun z => e (h1.trans z))]; exact ⟨h1, h2, h3⟩
theorem KT.put {H : Hp} {kvs : List (List Key × V)} {xs : List (List Key × Addr × Value)} (r : KT H kvs xs) (k : List Key) {b : Addr} {y : V} {u : Value} (hb : H b = some (.tup (k.map kV))) (ry : RelV y u) :
  KT H (putK kvs k y) (storedH xs k b u) := by
 have e : (kvs.any fun kv => decide (kv.1 = k)) = (atKey xs k).isSome := by
  rw [valV_any, (r.val k).isSome_eq, Option.isSome_map]
 unfold putK storedH
 rw [e]
 by_cases q : (atKey xs k).isSome = true
 ·rw [if_pos q, if_pos q]; exact r.repl k ry
 ·rw [if_neg q, if_neg q]; exact Paired.snoc r ⟨rfl, hb, ry⟩
theorem KT.keeps {H H' : Hp} {kvs : List (List Key × V)} {xs : List (List Key × Addr × Value)} (r : KT H kvs xs) (ht : ∀ b ys, H b = some (.tup ys) → H' b = some (.tup ys)) : KT H' kvs xs :=
 Paired.mapP r fun _ _ z => ⟨z.1, ht _ _ z.2.1, z.2.2⟩
section
variable {P : Program} {w : World} {H : Hp} {h : Heap} {a : Addr}
theorem rd_of {u : HO} (ok : HOk P w H h) (e : Rd H a u) : ObjOk P w H h a u := e.ok ok
theorem dk_rd {kvs : List (Key × V)} (ok : HOk P w H h) (e : Rd H a (.dK kvs)) : kvs.length ≤ sizeLine ∧ (a == sysModules) = false ∧ ∃ vs, KV kvs vs ∧ h.DictOf (mixKind P w) a vs :=
 let ⟨z, y, vs, r, d⟩ := (show ObjOk P w H h a (.dK kvs) from rd_of ok e); ⟨z, y, vs, r, d.dictOf⟩
theorem dk_at {kvs : List (Key × V)} (ok : HOk P w H h) (e : Rd H a (.dK kvs)) : kvs.length ≤ sizeLine ∧ (a == sysModules) = false ∧ ∃ vs, KV kvs vs ∧ h.DictAt (mixKind P w) a vs vs.length :=
 show ObjOk P w H h a (.dK kvs) from rd_of ok e
theorem key_of {ks : List Key} (ok : HOk P w H h) (e : H a = some (.tup (ks.map kV))) : (tupleKind (mixKind P w)).is h ks a := by
 obtain ⟨_, its, r, o, h1, h2, n, h3⟩ := (show ObjOk P w H h a (.tup (ks.map kV)) from ok a _ e)
 exact ⟨o, its.toArray, n, h1, h2, h3, by simpa using items_are r⟩
theorem dt_rd {kvs : List (List Key × V)} (ok : HOk P w H h) (e : Rd H a (.dT kvs)) : kvs.length ≤ sizeLine ∧ (a == sysModules) = false ∧
  ∃ xs, KT H kvs xs ∧ h.DictOfH (tupleKind (mixKind P w)) a xs := by
 obtain ⟨z, y, xs, r, o, es, ep, h1, h2, h3, h4, h5⟩ := (show ObjOk P w H h a (.dT kvs) from rd_of ok e)
 refine ⟨z, y, xs, r, o, es, ep, h1, h2, h3, h4, fun x hx => ?_, h5⟩
 have all : ∀ {l : List (List Key × V)} {m : List (List Key × Addr × Value)}, KT H l m → ∀ x ∈ m, (tupleKind (mixKind P w)).is h x.1 x.2.1 := by
  intro l m q
  induction q with
  | nil => intro x hx; exact nomatch hx
  | @cons p q ps qs hq t ih =>
   intro x hx
   rcases List.mem_cons.mp hx with e | hx
   ·subst e
    exact key_of ok (by rw [← hq.1]; exact hq.2.1)
   ·exact ih x hx
 exact all r x hx
theorem dt_of {kvs : List (List Key × V)} (ok : HOk P w H h) (e : H a = some (.dT kvs)) : kvs.length ≤ sizeLine ∧ (a == sysModules) = false ∧
  ∃ xs, KT H kvs xs ∧ h.DictOfH (tupleKind (mixKind P w)) a xs := dt_rd ok (.inl e)
end
noncomputable def DGet (H : Hp) (a : Addr) (y : V) (r : Option V) : Prop :=
 (∃ kvs k, Rd H a (.dK kvs) ∧ y = kV k ∧ r = valV kvs k) ∨ ∃ kvs k b, Rd H a (.dT kvs) ∧ y = .ref b ∧ H b = some (.tup (k.map kV)) ∧ r = valV kvs k
noncomputable def DPut (H : Hp) (a : Addr) (y v : V) (H' : Hp) : Prop :=
 (∃ kvs k, H a = some (.dK kvs) ∧ y = kV k ∧ kvs.length < sizeLine ∧ H' = upd H a (.dK (putK kvs k v))) ∨
 ∃ kvs k b, H a = some (.dT kvs) ∧ y = .ref b ∧ H b = some (.tup (k.map kV)) ∧ kvs.length < sizeLine ∧ H' = upd H a (.dT (putK kvs k v))
theorem DGet.k {H : Hp} {a : Addr} {kvs : List (Key × V)} {k : Key} (e : H a = some (.dK kvs)) : DGet H a (kV k) (valV kvs k) := .inl ⟨kvs, k, .inl e, rfl, rfl⟩
theorem DPut.k {H : Hp} {a : Addr} {kvs : List (Key × V)} {k : Key} {v : V} (e : H a = some (.dK kvs)) (hl : kvs.length < sizeLine) : DPut H a (kV k) v (upd H a (.dK (putK kvs k v))) := .inl ⟨kvs, k, e, rfl, hl, rfl⟩
section
variable {X : Cx} {pins : List (Addr × Obj)} {σ : St} {H : Hp} {s : Shared} {a : Addr} {y v : V} {u r : Value} {o : Option V} {A : Around} {E : Value → Shared → Prop}
theorem Inv.big (I : Inv X pins σ H s) : sysModules < s.heap.objs.size := by
 have h : mainGlobals < s.heap.objs.size := (I.mod.glob.keeps I.bk).lt
 exact Nat.lt_trans (by decide) h
theorem d_getItem {Q : Value → Shared → Prop} (hu : A.units + 1 < cLine) (I : Inv X pins σ H s) (g : DGet H a y (some v)) (ry : RelV y u) (h : ∀ w' s', Inv X pins σ H s' → RelV v w' → Q w' s') :
  wpAny (model X.prog X.w) A (getItem (.ref a) u) Q E s := by
 rcases g with ⟨kvs, k, e, ey, l⟩ | ⟨kvs, k, b, e, ey, eb, l⟩
 ·subst ey
  obtain ⟨z, hd, vs, rel, dd⟩ := dk_rd I.hok e
  obtain ⟨w', hw, rw'⟩ := RelO.some_of (v := v) (o := valueAt vs k) (by rw [l]; exact rel.val k)
  exact wpAny_getItem_of (kV_is ry) dd.mapOf hw (h w' _ (I.tok _) rw')
 ·subst ey
  cases (show u = Value.ref b from ry)
  obtain ⟨z, hd, xs, rel, dd⟩ := dt_rd I.hok e
  obtain ⟨w', hw, rw'⟩ := RelO.some_of (v := v) (o := (atKey xs k).map (·.2)) (by rw [l]; exact rel.val k)
  obtain ⟨p, hp, hp2⟩ := Option.map_eq_some_iff.mp hw
  refine wpAny_getItem_heap (tupleKind_room_in1 hu) (key_of I.hok eb) dd hp ?_
  rw [hp2]
  exact h w' _ (I.tok _) rw'
theorem d_notIn {Q : Value → Shared → Prop} (hu : A.units + 1 < cLine) (I : Inv X pins σ H s) (g : DGet H a y o) (ry : RelV y u) (h : ∀ s', Inv X pins σ H s' → Q (.bool (!o.isSome)) s') :
  wpAny (model X.prog X.w) A (compareOp .NotIn u (.ref a)) Q E s := by
 rcases g with ⟨kvs, k, e, ey, l⟩ | ⟨kvs, k, b, e, ey, eb, l⟩
 ·subst ey
  obtain ⟨z, hd, vs, rel, dd⟩ := dk_rd I.hok e
  refine wpAny_notIn_of (kV_is ry) hd dd.mapOf ?_
  rw [← (rel.val k).isSome_eq, ← l]
  exact h _ (I.tok _)
 ·subst ey
  cases (show u = Value.ref b from ry)
  obtain ⟨z, hd, xs, rel, dd⟩ := dt_rd I.hok e
  refine wpAny_notIn_heap (tupleKind_room_in1 hu) (key_of I.hok eb) hd dd ?_
  have q := (rel.val k).isSome_eq
  rw [Option.isSome_map] at q
  rw [← q, ← l]
  exact h _ (I.tok _)
theorem d_write {h' : Heap} {t' : Nat} {ob : HO} (I : Inv X pins σ H s) (mu : Mut (H a)) (hs : Heap.SameBut a s.heap h') (he : ∃ q, h'.get? a = some q) (new : ObjOk X.prog X.w (upd H a ob) h' a ob) :
  Inv X pins σ (upd H a ob) { s with heap := h', toks := t' } :=
 I.write (x := a) (e := a) mu (.inl rfl) (fun b q hb z => (hs.2 b hb).trans z) he new
theorem dk_new {P : Program} {w : World} {H' : Hp} {h' : Heap} {kvs : List (Key × V)} {vs : List (Key × Value)} (z : kvs.length ≤ sizeLine) (hd : (a == sysModules) = false) (rel : KV kvs vs) (dd : h'.DictAt (mixKind P w) a vs vs.length) :
  ObjOk P w H' h' a (.dK kvs) := ⟨z, hd, vs, rel, dd⟩
theorem dictSet_at {P : Program} {w : World} {κ : Type} [DecidableEq κ] {knd : KeyKind P w κ} {A : Around} {E : Value → Shared → Prop} {s : Shared} {d : Addr} {kvs : List (κ × Value)} {k : κ} {key v : Value} {Q : Unit → Shared → Prop} (hkey : knd.is k key = true) (hm : s.heap.DictAt knd d kvs kvs.length)
    (hsz : kvs.length ≤ sizeLine) (hQ : ∀ h', h'.DictAt knd d (stored kvs k v) (stored kvs k v).length → Heap.SameBut d s.heap h' → Q () { s with heap := h', toks := s.toks + 1 }) :
    wpAny (model P w) A (dictSet d key v) Q E s := by
  obtain ⟨o, es, ho, hc, hd, hk, hp, hn⟩ := hm
  have hes : es.size ≤ sizeLine := by have e1 := hp.length; have e2 : es.toList.length = es.size := by simp
                                      lia
  unfold dictSet
  try with_reducible refine wpAny_holding ?_
  refine wpAny_bind (knd.pyHash hkey ?_)
  unfold dictSetHashed
  try with_reducible refine wpAny_holding ?_
  refine wpAny_bind (wpAny_dictFind_of (s := { s with toks := s.toks + 1 }) hkey ho hd hk ?_)
  have hidx : (es.findIdx? fun e => knd.is k e.key) = kvs.findIdx? fun kv => decide (kv.1 = k) := by
    rw [← hp.findIdx k]; obtain ⟨l⟩ := es; simp
  cases hi : es.findIdx? fun e => knd.is k e.key with
  | some i =>
    have hst : stored kvs k v = kvs.map fun kv => if kv.1 = k then (kv.1, v) else kv := by rw [stored, if_pos (any_of_findIdx_some (hidx ▸ hi))]
    have hlen : kvs.length = (stored kvs k v).length := by rw [hst, List.length_map]
    refine wpAny_bind (wpAny_rule (wpAny_bind (wpAny_updateDict (s := { s with toks := s.toks + 1 }) ho hd (wpAny_point (hQ _ ⟨_, _, Heap.get?_update_self _ ho (Obj.isFreed_of_dict (Obj.data_mapDict hd _)),
      hc.mapDict _, (Obj.data_mapDict hd _).trans (congrArg (fun n => Data.dict _ n) hlen), hk.modify _ _, ?_, ?_⟩ (Heap.SameBut.update ..))))))
    · rw [stored, if_pos (any_of_findIdx_some (hidx ▸ hi))]
      have hl : (es.toList.findIdx? fun e => knd.is k e.key) = some i := by rw [← hi]; obtain ⟨l⟩ := es; simp
      have := hp.modify hn hl v
      obtain ⟨l⟩ := es
      simpa using this
    · rw [stored, if_pos (any_of_findIdx_some (hidx ▸ hi)), keys_map_store]; exact hn
  | none =>
    have hnot : k ∉ kvs.map (·.1) := not_mem_of_findIdx_none (hidx ▸ hi)
    have hany : ¬ (kvs.any fun kv => decide (kv.1 = k)) = true := by
      rw [List.any_eq_true]; rintro ⟨kv, hkv, he⟩
      exact hnot (List.mem_map.mpr ⟨kv, hkv, of_decide_eq_true he⟩)
    have hst : stored kvs k v = kvs ++ [(k, v)] := by rw [stored, if_neg hany]
    have hlen : kvs.length + 1 = (stored kvs k v).length := by rw [hst, List.length_append]; rfl
    refine wpAny_bind (wpAny_rule (wpAny_updateDictKeys (hz := hes) (s := { s with toks := s.toks + 1 }) ho hd (hQ _ ⟨_, _, Heap.get?_update_self _ ho (Obj.isFreed_of_dict (Obj.data_mapDictKeys hd _)),
      hc.mapDictKeys _, (Obj.data_mapDictKeys hd _).trans (congrArg (fun n => Data.dict _ n) hlen), hk.push hkey _, ?_, ?_⟩ (Heap.SameBut.update ..))))
    · rw [stored, if_neg hany]
      have := hp.append hkey (knd.hash k) v
      obtain ⟨l⟩ := es
      simpa using this
    · rw [stored, if_neg hany, List.map_append, List.nodup_append]
      refine ⟨hn, by simp, ?_⟩
      intro a ha b hb
      simp only [List.map_cons, List.map_nil, List.mem_singleton] at hb
      subst hb
      exact fun e => hnot (e ▸ ha)
theorem setItem_at {P : Program} {w : World} {κ : Type} [DecidableEq κ] {knd : KeyKind P w κ} {A : Around} {E : Value → Shared → Prop} {s : Shared} {d : Addr} {kvs : List (κ × Value)} {k : κ} {key v : Value} {Q : Unit → Shared → Prop} (hkey : knd.is k key = true) (hm : s.heap.DictAt knd d kvs kvs.length)
  (hsz : kvs.length ≤ sizeLine) (hQ : ∀ h', h'.DictAt knd d (stored kvs k v) (stored kvs k v).length → Heap.SameBut d s.heap h' → Q () { s with heap := h', toks := s.toks + 1 }) :
  wpAny (model P w) A (setItem (.ref d) key v) Q E s := by
 have hT := hm.dictOf.typeIs
 unfold setItem
 try with_reducible refine wpAny_holding ?_
 refine wpAny_bind (wpAny_sequenceKey hT (by decide) ?_)
 refine wpAny_bind (wpAny_callSpecial?_slot (name := Str.ofString "__setitem__") hT slot_dict_setitem
  (wpAny_call_entry slot_dict_setitem hT entry_dict_setitem ?_ (args_dict_setitem _ _ _)))
 show wpAny _ _ (Builtin.Dict.notOrdered "__setitem__" ⟨[.ref d, key, v], []⟩ >>= _) _ _ s
 refine wpAny_bind (wpAny_notOrdered_dict hT ?_)
 show wpAny _ _ (dictSet d key v >>= _) _ _ s
 exact wpAny_bind (dictSet_at hkey hm hsz fun h' hm' hs' => wpAny_pure ⟨.none, rfl, wpAny_pure (hQ h' hm' hs')⟩)
theorem d_setItem {H' : Hp} {Q : Unit → Shared → Prop} (hu : A.units + 1 < cLine) (I : Inv X pins σ H s) (g : DPut H a y v H') (ry : RelV y u) (rv : RelV v r) (h : ∀ s', Inv X pins σ H' s' → Q () s') :
  wpAny (model X.prog X.w) A (setItem (.ref a) u r) Q E s := by
 rcases g with ⟨kvs, k, e, ey, l, eH⟩ | ⟨kvs, k, b, e, ey, eb, l, eH⟩
 ·subst ey eH
  obtain ⟨z, hd, vs, rel, dd⟩ := dk_at I.hok (.inl e)
  have hz : vs.length ≤ sizeLine := by rw [← rel.length]; exact z
  have hl : (putK kvs k v).length ≤ sizeLine := by have := length_putK kvs k v; lia
  refine setItem_at (kV_is ry) dd hz fun h' dd' hs => h _ ?_
  have he : ∃ q, h'.get? a = some q := let ⟨q, _, hq, _⟩ := dd'; ⟨q, hq⟩
  exact d_write I (by rw [e]; exact True.intro) hs he (dk_new hl hd (rel.put k rv) dd')
 ·subst ey eH
  cases (show u = Value.ref b from ry)
  obtain ⟨z, hd, xs, rel, dd⟩ := dt_of I.hok e
  have hz : xs.length ≤ sizeLine := by rw [← Paired.length rel]; exact z
  have hl : (putK kvs k v).length ≤ sizeLine := by have := length_putK kvs k v; lia
  refine wpAny_setItem_heap (hsz := hz) (tupleKind_room_in1 hu) (key_of I.hok eb) dd fun h' dd' hs => h _ ?_
  obtain ⟨q, es, ep, hq, h2, h3, h4, _, h5⟩ := dd'
  refine d_write I (by rw [e]; exact True.intro) hs ⟨q, hq⟩ ⟨hl, hd, _, (rel.put k eb rv).keeps fun c ys ec => ?_, q, es, ep, hq, h2, h3, h4, h5⟩
  rw [upd_ne (ne_of ec e (fun z => nomatch z))]
  exact ec
end
section
variable {X : Cx} {pins : List (Addr × Obj)} {σ : St} {H : Hp} {s : Shared} {a : Addr} {kvs : List (Key × V)} {k : Key} {u : Value} {A : Around} {E : Value → Shared → Prop}
theorem d_len {Q : Value → Shared → Prop} (I : Inv X pins σ H s) (e : Rd H a (.dK kvs)) (h : ∀ t s', Inv X pins σ H s' → Q (.int kvs.length t) s') : wpAny (model X.prog X.w) A (call (.builtin "len") [.ref a]) Q E s := by
 obtain ⟨z, hd, vs, rel, dd⟩ := dk_rd I.hok e
 refine call_len_dict hd dd (by rw [← rel.length]; rw [sizeLine_eq] at z; lia) ?_
 rw [← rel.length]
 exact h _ _ (I.tok _)
end
noncomputable def NoSl (i : Expr) : Prop := ∀ ov iv, subscripted i false ov iv = operate [ov, iv] (getItem ov iv)
theorem subD_of {prog : Program} {w : World} {A : Around} {E : Value → Shared → Prop} {s : Shared} {env : Env} {value slice : Expr} {pos : Pos} {T id : String} {Q : Value → Shared → Prop}
  (hl : typeLookup (.type T) "__getitem__" = pure (some (.builtin id))) (hs : NoSl slice)
  (h : wpAny (model prog w) A (eval value env) (fun o s₁ => wpAny (model prog w) A (eval slice env) (fun i s₂ => s₂.TypeIs o T ∧ wpAny (model prog w) A (getItem o i) Q E s₂) E s₁) E s) :
  wpAny (model prog w) A (eval (.Subscript value slice pos) env) Q E s := by
 refine Subscript_ (wpAny_mono h (fun o s₁ h₁ => wpAny_mono h₁ (fun i s₂ h₂ => ?_) fun _ _ x => x) fun _ _ x => x)
 obtain ⟨hT, h₂⟩ := h₂
 unfold subscriptTail
 refine wpAny_bind ?_
 rw [getitemInPython_of_ne hT.not_modules]
 refine wpAny_bind (wpAny_specialOf hT hl ?_)
 have fin : wpAny (model prog w) A (subscripted slice false o i) (fun r s₃ => wpAny (model prog w) A (letTemporaryGo value o r >>= fun _ => pure r) Q E s₃) E s₂ := by
  rw [hs o i]
  exact wpAny_operating (wpAny_mono h₂ (fun r s₃ h₃ => wpAny_bind (wpAny_letTemporaryGo (wpAny_pure h₃))) fun _ _ x => x)
 first
  | exact wpAny_pure (wpAny_bind fin)
  | exact wpAny_bind (wpAny_pure (wpAny_bind fin))
  | exact wpAny_bind fin
theorem dict_typeIs {X : Cx} {pins : List (Addr × Obj)} {σ : St} {H : Hp} {s : Shared} {a : Addr} {y : V} {o : Option V} (I : Inv X pins σ H s) (g : DGet H a y o) : s.TypeIs (.ref a) "dict" := by
 rcases g with ⟨kvs, k, e, _, _⟩ | ⟨kvs, k, b, e, _, _, _⟩
 ·obtain ⟨_, _, vs, _, dd⟩ := dk_rd I.hok e
  exact dd.typeIs
 ·obtain ⟨_, _, xs, _, dd⟩ := dt_rd I.hok e
  exact dd.typeIs
noncomputable def tDGet (td ty : TE) : TE := fun σ H Q => td σ H fun x H1 => ty σ H1 fun y H2 => ∃ a v, x = .ref a ∧ DGet H2 a y (some v) ∧ Q v H2
noncomputable def tDNotIn (ty td : TE) : TE := fun σ H Q => ty σ H fun y H1 => td σ H1 fun x H2 => ∃ a o, x = .ref a ∧ DGet H2 a y o ∧ Q (.bl (!o.isSome)) H2
noncomputable def sDPut (td ty tv : TE) : TS := fun D σ H => tv σ H fun v H1 => td σ H1 fun x H2 => ty σ H2 fun y H3 => ∃ a H4, x = .ref a ∧ DPut H3 a y v H4 ∧ D.nx σ H4
section
variable {X : Cx} {o i e value : Expr} {pos pos' tpos : Pos} {td ty tv : TE}
theorem pe_dget (hu : X.A.units + 1 < cLine) (ho : PE X o td) (hi : PE X i ty) (hs : NoSl i) : PE X (.Subscript o i pos) (tDGet td ty) := by
 intro pins s σ H Q I h
 refine subD_of PySem.F.slot_dict_getitem.lookup hs (thn (ho pins s σ H _ I h) fun u s1 ⟨x, H1, I1, rx, q1⟩ => thn (hi pins s1 σ H1 _ I1 q1) fun iv s2 hX11_ => ?_)
 obtain ⟨y, H2, I2, ry, a, v, ex, g, q2⟩ := hX11_
 subst ex
 obtain rfl : u = Value.ref a := rx
 exact ⟨dict_typeIs I2 g, d_getItem hu I2 g ry fun w' s3 I3 rw' => ⟨v, H2, I3, rw', q2⟩⟩
theorem pc_dnotin (hu : X.A.units + 1 < cLine) (hi : PE X i ty) (ho : PE X o td) : PC X .NotIn i o (tDNotIn ty td) := by
 intro pins s σ H Q I h
 refine thn (hi pins s σ H _ I h) fun iv s1 ⟨y, H1, I1, ry, q1⟩ => thn (ho pins s1 σ H1 _ I1 q1) fun u s2 hX11_ => ?_
 obtain ⟨x, H2, I2, rx, a, ov, ex, g, q2⟩ := hX11_
 subst ex
 obtain rfl : u = Value.ref a := rx
 exact d_notIn hu I2 g ry fun s3 I3 => ⟨.bl (!ov.isSome), H2, I3, rfl, q2⟩
theorem ps_dput (hu : X.A.units + 1 < cLine) (ho : PE X o td) (hi : PE X i ty) (hv : PE X value tv) (hs : swapsWith value (some (.Subscript o i pos')) pos.line X.env = pure false) :
  PS X (.Assign [.Subscript o i pos'] value pos) (sDPut td ty tv) := by
 intro pins s σ H D I h
 refine wpAny_Assign_Subscript (thn (hv pins s σ H _ I h) fun r s1 ⟨v, H1, I1, rv, q1⟩ => thn (ho pins s1 σ H1 _ I1 q1) fun u s2 ⟨x, H2, I2, rx, q2⟩ => thn (hi pins s2 σ H2 _ I2 q2) fun iv s3 hX11_ => ?_) hs
 obtain ⟨y, H3, I3, ry, a, H4, ex, g, q3⟩ := hX11_
 subst ex
 obtain rfl : u = Value.ref a := rx
 exact d_setItem hu I3 g ry rv fun s4 I4 => ⟨σ, H4, I4, q3⟩
end
theorem dk_empty {P : Program} {w : World} {H : Hp} (h : Heap) (hb : sysModules < h.objs.size) : ObjOk P w H (h.push { cls := .type "dict", data := .dict #[] }) h.objs.size (.dK []) :=
 ⟨Nat.zero_le _, beq_eq_false_iff_ne.mpr (Ne.symm (Nat.ne_of_lt hb)), [], .nil, _, #[], Heap.get?_push_size _ rfl, ⟨rfl, rfl, rfl⟩, rfl, fun e he => by simp at he, .nil, List.nodup_nil⟩
noncomputable def tDNewK : TE := fun _ H Q => ∀ p, H p = none → Q (.ref p) (upd H p (.dK []))
section
variable {X : Cx} {pos : Pos}
theorem pe_dnewK : PE X (.Dict [] [] pos) tDNewK := fun pins s σ H Q I h =>
 wpAny_Dict_empty ⟨.ref s.heap.objs.size, _, I.laid (a := s.heap.objs.size) (o := .dK []) (t' := s.toks) (fun _ _ q => Heap.get?_push_of_some _ q) (Nat.le_refl _) (dk_empty s.heap I.big), rfl, h _ (I.hok.fresh (Nat.le_refl _))⟩
end
section
variable {X : Cx} {pins : List (Addr × Obj)} {σ : St} {H : Hp} {s : Shared} {a : Addr} {y d : V} {u r : Value} {o : Option V} {A : Around} {E : Value → Shared → Prop}
end
section
variable {X : Cx} {o e f : Expr} {apos cpos : Pos} {td ty tx : TE}
end
section
variable {X : Cx} {pins : List (Addr × Obj)} {σ : St} {H : Hp} {s : Shared} {a : Addr} {kvs : List (Key × V)} {A : Around} {E : Value → Shared → Prop}
end
section
variable {X : Cx} {pins : List (Addr × Obj)} {σ : St} {H : Hp} {s : Shared} {a : Addr} {y : V} {u : Value} {A : Around} {E : Value → Shared → Prop}
end
end L2
namespace Att
open PySem PySem.W PySem.Calls PyProof.Rows
theorem ints_of_wellAll {P : Params} {h : Heap} : ∀ (ns : List Int) (vs : List Value), WellAll P h vs (ns.map WData.int) → IntsAre vs ns := by
 intro ns
 induction ns with
 | nil =>
  intro vs w
  rw [List.map_nil] at w
  cases w
  exact .nil
 | cons n ns ih =>
  intro vs w
  rw [List.map_cons] at w
  cases w with
  | cons a b =>
   cases a
   exact .cons _ _ (ih _ b)
theorem script_of {l : OpenLaw} {n : Nat} (hn : l.most = some n) {P : Params} {h : Heap} {args : List WData} {vals : List Value}
  (hpre : l.row.toRowW.claim.pre args = true) (hwl : WellAll P h vals args) :
  ∃ a vs ns, vals = [Value.ref a] ∧ args = [WData.list (ns.map WData.int)] ∧ h.get? a = some { cls := .type "list", data := .seq vs.toArray } ∧ IntsAre vs ns ∧ ns.length ≤ n := by
 have hsh : WShape.hasAll [] args [.list .int] = true := (pre_splitW hpre).1
 have hc : l.pre.holds [] { args := args } = true := (pre_splitW hpre).2
 obtain ⟨d, r, rfl, h1, h2⟩ := hasAllW_cons hsh
 obtain rfl := hasAllW_nil h2
 obtain ⟨xs, rfl, h3⟩ := hasW_list h1
 obtain ⟨ns, rfl⟩ := items_int h3
 have hlen : ns.length ≤ n := by
  unfold OpenLaw.pre at hc
  have h4 : (WTm.not (.lt (.lit (.int (n : Int))) (.len (.arg 0)))).holds [] { args := [.list (ns.map .int)] } = true := by
   have h4 := (holds_andW hc).1
   rw [hn] at h4
   exact h4
  have h5 := condW_of h4 (w_not (w_lt w_lit (w_len_list (w_arg rfl))))
  rw [List.length_map] at h5
  refine Nat.le_of_not_lt fun q => ?_
  have q' : (n : Int) < ((ns.length : Nat) : Int) := by lia
  first
   | (rw [decide_eq_true q'] at h5; exact absurd h5 (by decide))
   | (simp at h5; lia)
 cases hwl with
 | cons w1 w2 =>
  cases w2
  cases w1 with
  | list ho hall => exact ⟨_, _, ns, rfl, rfl, ho, ints_of_wellAll ns _ hall, hlen⟩
theorem post_true (l : OpenLaw) (args : List WData) : l.row.toRowW.claim.post args (.bool true) args = true :=
 postW_of (r := l.row.toRowW) (X := (true == true))
  (show WShape.has [] (.bool true) .bool = true by first | rfl | decide | simp [WShape.has, WShape.arms, WShape.armsAll])
  (show (WTm.eq .res (.lit (.bool true))).value [] { args := args, res := some (.bool true), after := args } = some (.bool (true == true)) from w_eq_bool (w_res rfl) w_lit) rfl
theorem attach_call {l : OpenLaw} {n : Nat} {q : Program} {loose : List Str} {XP : (Str → Option Value) → Heap → Prop} {YP : World → Heap → Prop} {d : DefRec}
  (hn : l.most = some n) (hdf : d.params.defaults = [])
  (call : ∀ (w : World) (s₀ s₁ : Shared) (mg mb : Str → Option Value) (fa : Addr) (o : Obj) (pm cd doc : Value) (a : Addr) (vs : List Value) (ns : List Int),
   Ground q loose [] XP w s₀ mg mb s₁.heap → YP w s₁.heap →
   s₁.heap.get? fa = some o → o.data = .func (docDef d.name d.params d.body d.scope pm cd doc) → s₁.heap.CodeRec cd d.name → mg d.name = some (.ref fa) →
   s₁.heap.get? a = some { cls := .type "list", data := .seq vs.toArray } → IntsAre vs ns → ns.length ≤ n → s₁.gens = #[] →
   codeAny (model l.prog w) callerA (.call (.ref fa) ⟨[.ref a], []⟩) (fun r s' => r = .ok (.ret (.bool true)) ∧ OldK s₁.heap s'.heap ∧ s'.os = s₁.os ∧ AllBare s'.gens) s₁) :
  WalkO q loose XP YP l.row.toRowW d [] (fun f vs => PySem.call f vs) := by
 intro w s₀ s₁ mg mb G Y fa o pm cd doc dV kV ho hd hcd hD hmg hg args vals as hpre hlay hrd hwl hlo
 obtain rfl : dV = .none := Dflts.none hD hdf
 obtain rfl : kV = .none := Dflts.noKw hD
 obtain ⟨a, vs, ns, rfl, rfl, hobj, hints, hlen⟩ := script_of hn hpre hwl
 refine enter_call (codeAny_mono (call w s₀ s₁ mg mb fa o pm cd doc a vs ns G Y ho (fd_plain hd) hcd hmg hobj hints hlen hg) fun r s' hq => ?_)
 obtain ⟨rfl, h2, h3, h4⟩ := hq
 exact ⟨.inl ⟨.bool true, .bool true, [], rfl, fun _ => rfl, .bool true, post_true l _, fun _ => ⟨List.Pairwise.nil, fun _ hm => (nomatch hm)⟩⟩, h2, h3, h4⟩
section
variable {prog : Program} {w : World} {A : Around} {E : Value → Shared → Prop} {s : Shared} {K : Frag}
end
end Att
namespace L2
open PySem PySem.Spec PyProof.Rows
theorem vals_ints : ∀ {vs : List Value} {ns : List Int}, IntsAre vs ns → Vals (ns.map V.int) vs
 | _, _, .nil => .nil
 | _, _, .cons n t h => .cons ⟨t, rfl⟩ (vals_ints h)
noncomputable def Only (H : Hp) : Prop := (∀ b, H b = none ∨ ∃ o xs, H b = some (.frz o (.lst xs))) ∧ ∀ b c, H b ≠ none → H c ≠ none → b = c
theorem law_call {P : Program} {w : World} {K : PySem.W.Frag} {mg mb : Str → Option Value} {CX : CXT} {k : Nat} {fa a : Addr} {fd : FuncData} {x : Str} {sp : Sp} {s₁ : Shared} {vs : List Value} {ns : List Int}
  (KX : K.In s₁.heap) (hns : s₁.heap.Ns mainGlobals mg) (hb : s₁.heap.Ns builtinsNs mb) (hbb : ∀ x : Str, x ≠ "__name__" → mb x = bootBuiltins x) (hlim : s₁.heap.NoLimit) (hg : s₁.gens = #[])
  (ha : s₁.heap.get? a = some { cls := .type "list", data := .seq vs.toArray }) (hi : IntsAre vs ns) (hl : ns.length ≤ sizeLine) (hr : Room k callerA)
  (F : ∀ base : Heap, K.In base → base.Ns mainGlobals mg → FnOk P w K mg base CX k fa fd [x] sp) (hbind : ∀ (s : Shared) (u : Value), BindsTo s fd ⟨[u], []⟩ [(x, u)])
  (hsp : ∀ H : Hp, Only H → SqL K H a (ns.map V.int) → sp [.ref a] H (fun v _ => v = .bl true) fun _ _ _ => False)
  (hCX : ∀ H e s', CX [] H s₁ (fun _ _ _ => False) e s' → False) :
  codeAny (model P w) callerA (.call (.ref fa) ⟨[.ref a], []⟩) (fun r s' => r = .ok (.ret (.bool true)) ∧ OldK s₁.heap s'.heap ∧ s'.os = s₁.os ∧ AllBare s'.gens) s₁ := by
 have rv := vals_ints hi
 have lenV := hi.length
 have core : ∀ H : Hp, Only H → SqL K H a (ns.map V.int) → HOk P w H s₁.heap → (∀ b, H b ≠ none → b = a) → (H a ≠ none → K.lookup a = none) →
   codeAny (model P w) callerA (.call (.ref fa) ⟨[.ref a], []⟩) (fun r s' => r = .ok (.ret (.bool true)) ∧ OldK s₁.heap s'.heap ∧ s'.os = s₁.os ∧ AllBare s'.gens) s₁ := by
  intro H hO hS hok hA hK
  have base_of : ∀ {b : Addr} {o : Obj}, s₁.heap.get? b = some o → H b = none → (hidT s₁.heap H).get? b = some o := fun e n => hidT_get e n
  have noA : ∀ {b : Addr} {o : Obj} {es : Array DictEntry} {ep : Nat}, s₁.heap.get? b = some o → o.data = .dict es ep → H b = none := fun {b o es ep} e d => by
   cases q : H b with
   | none => rfl
   | some u =>
    have e' : b = a := hA b (by rw [q]; simp)
    subst e'
    rw [ha] at e; cases e
    have d' : Data.seq vs.toArray _ = Data.dict es ep := d
    cases d'
  have nsK : ∀ {b : Addr} {m : Str → Option Value}, s₁.heap.Ns b m → (hidT s₁.heap H).Ns b m := fun {b m} ⟨o, es, ep, e, d, r⟩ => ⟨o, es, ep, base_of e (noA e d), d, r⟩
  have hKb : K.In (hidT s₁.heap H) := fun b o e => base_of (KX b o e) (by
   cases q : H b with
   | none => rfl
   | some u =>
    have e' : b = a := hA b (by rw [q]; simp)
    subst e'
    rw [hK (by rw [q]; simp)] at e; cases e)
  have hM : Mod K mg (hidT s₁.heap H) := ⟨hKb, nsK hns, ⟨mb, nsK hb, hbb⟩, let ⟨mc, h1, h2⟩ := hlim; ⟨mc, nsK h1, h2⟩⟩
  have e0 : Env0 P w K mg (hidT s₁.heap H) callerA [] s₁ H := ⟨rfl, hM, fun b o e => of_hidT e, Nat.le_of_eq (hidT_size _ _), trivial, fun b hb => absurd (show b ∈ ([] : List Addr) from hb) (by simp), hok, .of_eq hg⟩
  refine codeAny_mono ((F _ hKb (nsK hns)).run callerA [] s₁ H ⟨[.ref a], []⟩ [.ref a] [.ref a] _ _ hr e0 (hbind s₁ (.ref a)) (.cons rfl .nil) (hsp H hO hS)) fun r s' h => ?_
  cases r with
  | error e => exact (hCX H e s' h).elim
  | ok fl =>
   cases fl with
   | next => exact False.elim h
   | brk => exact False.elim h
   | cont => exact False.elim h
   | ret u =>
    obtain ⟨v, H', os, bare, un, hok', r', q⟩ := h
    have q' : v = .bl true := q
    subst q'
    obtain rfl : u = Value.bool true := r'
    refine ⟨rfl, OldK.of_keep fun b o e => ?_, os, bare⟩
    cases q : H b with
    | none => exact un.keep b o e q (by intro z; exact absurd (show b ∈ ([] : List Addr) from z) (by simp)) (by simp)
    | some u =>
     rcases hO.1 b with z | ⟨ob, xs, z⟩
     ·rw [q] at z; cases z
     ·have z2 := un.frzs b ob _ z
      obtain ⟨e1, _⟩ := hok b _ z
      obtain ⟨e2, _⟩ := hok' b _ z2
      rw [e] at e1; cases e1
      exact e2
 cases hk : K.lookup a with
 | some o =>
  have e := KX a o hk
  rw [ha] at e
  cases e
  refine core (fun _ => none) ⟨fun _ => .inl rfl, fun _ _ z => absurd rfl z⟩ (.inr ⟨_, vs.toArray, _, hk, rfl, rfl, rfl, by rw [List.size_toArray, lenV]; exact hl, by simpa using rv⟩) (fun b u z => by have z' : (none : Option HO) = some u := z; cases z') (fun b z => absurd rfl z) fun z => absurd rfl z
 | none =>
  refine core (fun b => if b = a then some (.frz { cls := .type "list", data := .seq vs.toArray } (.lst (ns.map V.int))) else none) ⟨fun b => ?_, fun b c hb hc => ?_⟩ (.inl (.inr ⟨{ cls := .type "list", data := .seq vs.toArray }, if_pos rfl⟩)) (fun b u z => ?_) (fun b z => ?_) fun _ => hk
  ·by_cases hb : b = a
   ·exact .inr ⟨_, _, if_pos hb⟩
   ·exact .inl (if_neg hb)
  ·by_cases eb : b = a
   ·by_cases ec : c = a
    ·rw [eb, ec]
    ·exact absurd (if_neg ec) hc
   ·exact absurd (if_neg eb) hb
  ·by_cases hb : b = a
   ·have z' := (if_pos hb).symm.trans z
    cases z'
    subst hb
    exact ⟨ha, by rw [List.length_map]; exact hl, vs, _, rv, ha⟩
   ·have z' := (if_neg hb).symm.trans z
    cases z'
  ·by_cases hb : b = a
   ·exact hb
   ·exact absurd (if_neg hb) z
end L2
namespace L2
open PySem PySem.Spec PyProof.Rows
theorem walk_of {l : PySem.W.OpenLaw} {n k : Nat} {q : Program} {loose : List Str} {XP : (Str → Option Value) → Heap → Prop} {YP : World → Heap → Prop} {d : DefRec} {K : Params → PySem.W.Frag} {CX : World → CXT} {sp : World → Sp} {x : Str}
  (hn : l.most = some n) (hn2 : n ≤ sizeLine) (hdf : d.params.defaults = []) (hr : Room k callerA)
  (hY : ∀ (w : World) (h : Heap), YP w h → (K w.params).In h)
  (F : ∀ (w : World) (mg : Str → Option Value) (fa : Addr) (h : Heap), (K w.params).In h → h.Ns mainGlobals mg → mg d.name = some (.ref fa) →
   ∃ fd : FuncData, (∀ (s : Shared) (u : Value), BindsTo s fd ⟨[u], []⟩ [(x, u)]) ∧
    ∀ base : Heap, (K w.params).In base → base.Ns mainGlobals mg → FnOk l.prog w (K w.params) mg base (CX w) k fa fd [x] (sp w))
  (hsp : ∀ (w : World) (H : Hp) (a : Addr) (ns : List Int), ns.length ≤ n → Only H → SqL (K w.params) H a (ns.map V.int) → sp w [.ref a] H (fun v _ => v = .bl true) fun _ _ _ => False)
  (hCX : ∀ (w : World) (H : Hp) (s : Shared) (e : Value) (s' : Shared), CX w [] H s (fun _ _ _ => False) e s' → False) :
  PySem.W.WalkO q loose XP YP l.row.toRowW d [] (fun f vs => PySem.call f vs) := by
 refine Att.attach_call hn hdf fun w s₀ s₁ mg mb fa o pm cd doc a vs ns G Y ho hd hcd hmg hobj hints hlen hg => ?_
 have KX := hY w _ Y
 obtain ⟨fd, hb, hF⟩ := F w mg fa _ KX G.T.g hmg
 exact law_call KX G.T.g G.T.b G.T.builtins G.T.nolimit hg hobj hints (Nat.le_trans hlen hn2) hr hF hb (fun H hO hS => hsp w H a ns hlen hO hS) fun H e s' => hCX w H s₁ e s'
end L2
/- THE LAST THEOREM (shape; LID, My.* are yours):
  My.Adr: a structure of the addresses that your layer names (classes, functions); My.Txt K t: a structure (Prop) of the equations over K;
  My.txt_mk : {K} {implicit addresses ..} (e1 : nsIn K mainGlobals "law" = some (some (.ref f))) (e2 : K.lookup f = some ⟨oc, od, .func (fnOf "law" "law" params body scope dV kV doc pm an cdv ct), sl⟩) (e3 : codeIn K cdv "law" = true) .. : ∃ t, My.Txt K t
(the tactic k_is has no namespace: write k_is) -/
namespace L2
open PySem PySem.Spec PyProof.Rows
noncomputable def defArgs (s : Stmt) : Arguments := match s with
 | .FunctionDef _ a _ _ _ _ _ _ _ _ => a
 | _ => { posonlyargs := [], args := [], vararg := none, kwonlyargs := [], kw_defaults := [], kwarg := none, defaults := [] }
noncomputable def defBody (s : Stmt) : List Stmt := match s with
 | .FunctionDef _ _ b _ _ _ _ _ _ _ => b
 | _ => []
noncomputable def defScope (s : Stmt) : Scope := match s with
 | .FunctionDef _ _ _ _ _ _ sc _ _ _ => sc
 | _ => { kind := .function, names := [], isGenerator := false, isCoroutine := false }
noncomputable abbrev CX0 : CXT := fun _ _ _ _ _ _ => False
noncomputable abbrev E0 : XK := fun _ _ _ => False
theorem pass0 {X : Cx} : Passes CX0 X E0 := fun _ _ _ _ _ _ _ h => h.elim
structure Fun (K : PySem.W.Frag) (x qual : Str) (st : Stmt) (f : Addr) (fd : FuncData) : Prop where
 ex : ∃ (oc : Value) (od : Option Addr) (kV doc pm : Value) (an : Option Addr) (cdv ct : Value) (osl : Array (Option Value)),
  fd = PySem.W.fnOf x qual (defArgs st) (defBody st) (defScope st) .none kV doc pm an cdv ct ∧ K.lookup f = some ⟨oc, od, .func fd, osl⟩ ∧ PySem.W.codeIn K cdv qual = true
 kp : PySem.W.keepIn K (.ref f) = true
section
variable {P : Program} {w : World} {K : PySem.W.Frag} {mg : Str → Option Value} {base : Heap}
theorem Fun.ok {x qual : Str} {st : Stmt} {f : Addr} {fd : FuncData} {N ps : List Str} {k : Nat} {sp : Sp} (F : Fun K x qual st f fd) (S : FnScope N ps (defScope st)) (len : ∀ vs H Q E, sp vs H Q E → vs.length = ps.length)
  (hbody : ∀ (cdv : Value) (A : Around) (outer : List Env) (s : Shared) (H : Hp) (vs : List V) (Q : VK) (E : XK), Room k (A.deeper (envOfC qual (defScope st) s.heap.objs.size f cdv)) → sp vs H Q E →
   ∃ t, PSs (cxOf CX0 P w K mg base N qual (defScope st) f cdv A outer s H E).nox (defBody st) t ∧ t { nx := fun _ H' => Q .non H', rt := Q } (start N vs) H) : FnOk P w K mg base CX0 (k + 1) f fd ps sp := by
 obtain ⟨oc, od, kV, doc, pm, an, cdv, ct, osl, rfl, lk, hcd⟩ := F.ex
 refine fn_of lk hcd S len fun A outer s H vs Q E hr hsp => ?_
 obtain ⟨t, h, q⟩ := hbody cdv A outer s H vs Q E hr hsp
 exact ⟨t, h.nox, q⟩
theorem Fun.binds {x qual : Str} {st : Stmt} {f : Addr} {fd : FuncData} {ps : List Str} (F : Fun K x qual st f fd)
  (h : ∀ (kV doc pm : Value) (an : Option Addr) (cdv ct : Value) (us : List Value), us.length = ps.length → bindArgs (PySem.W.fnOf x qual (defArgs st) (defBody st) (defScope st) .none kV doc pm an cdv ct) ⟨us, []⟩ = pure (ps.zip us)) : Binds K fd ps [] := by
 obtain ⟨oc, od, kV, doc, pm, an, cdv, ct, osl, rfl, lk, hcd⟩ := F.ex
 exact .all (h kV doc pm an cdv ct)
theorem fun_mk {x qual : Str} {st : Stmt} {f : Addr} {oc : Value} {od an : Option Addr} {osl : Array (Option Value)} {kV doc pm cdv ct : Value} (l : K.lookup f = some ⟨oc, od, .func (PySem.W.fnOf x qual (defArgs st) (defBody st) (defScope st) .none kV doc pm an cdv ct), osl⟩)
  (c : PySem.W.codeIn K cdv qual = true) (k : PySem.W.keepIn K (.ref f) = true) : Fun K x qual st f (PySem.W.fnOf x qual (defArgs st) (defBody st) (defScope st) .none kV doc pm an cdv ct) := ⟨⟨oc, od, kV, doc, pm, an, cdv, ct, osl, rfl, l, c⟩, k⟩
end
theorem small1000 {n : Nat} (h : n ≤ 1000) : n < sizeLine := Nat.lt_of_le_of_lt h (by decide)
section
variable {X : Cx}
end
noncomputable def Same (H H' : Hp) : Prop := ∀ b o, H b = some o → H' b = some o
theorem Same.refl (H : Hp) : Same H H := fun _ _ h => h
theorem Same.trans {H H1 H2 : Hp} (a : Same H H1) (b : Same H1 H2) : Same H H2 := fun c o h => b c o (a c o h)
theorem Same.free {H H' : Hp} (e : Same H H') {l : Addr} (h : H' l = Option.none) : H l = Option.none := by
 cases q : H l with
 | none => rfl
 | some o =>
  rw [e l o q] at h
  cases h
theorem Same.seq {K : PySem.W.Frag} {H H' : Hp} {a : Addr} {xs : List V} (e : Same H H') (h : SqL K H a xs) : SqL K H' a xs := by
 rcases h with (h | ⟨o, h⟩) | h
 ·exact .inl (.inl (e _ _ h))
 ·exact .inl (.inr ⟨o, e _ _ h⟩)
 ·exact .inr h
section
variable {X : Cx}
theorem call_lenD : CallR X (.builtin "len") (fun xs H Q => ∃ a kvs, xs = [V.ref a] ∧ H a = some (.dK kvs) ∧ Q (.int kvs.length) H) := by
 intro pins s σ H xs us Q I r h
 obtain ⟨a, kvs, rfl, ha, q⟩ := h
 obtain ⟨u, rfl, ru⟩ := vals1 r
 cases ru
 exact d_len I (.inl ha) fun t s' I' => ⟨.int kvs.length, H, I', ⟨t, rfl⟩, q⟩
end
section
variable {κ : Type} [DecidableEq κ]
end
end L2
namespace L2
open PySem PySem.Spec PyProof.Rows
noncomputable def CX1 (P : Program) (w : World) : CXT := fun outer H s E ev s' => ∃ (e t C : Addr) (H' : Hp) (B : Heap), ev = .ref e ∧ s'.os = s.os ∧ AllBare s'.gens ∧ Un (frs outer) [] H H' s.heap s'.heap ∧ HOk P w H' s'.heap ∧ E (.ref C) none H' ∧
 Heap.FlyingW B outer e (.ref C) (.ref t) s'.heap ∧ (∀ b o, s.heap.get? b = some o → b ∉ frs outer → ∃ o', B.get? b = some o') ∧ ∀ b o, H' b = some o → ∃ o', B.get? b = some o'
end L2
namespace L2
open PySem PySem.Spec PyProof.Rows
end L2
namespace L2
open PySem PySem.Spec PyProof.Rows
theorem Un.held {P : Program} {w : World} {l : List Env} {H H' : Hp} {h0 h3 h5 B : Heap} {e : Addr} {cls a0 : Value} (U : Un (frs l) [] H H' h0 h3) (hok : HOk P w H' h3) (fl : Heap.FlyingW B l e cls a0 h3) (st : B.StaysIn h5) (up : h3.UpToSlots h5)
  (cov : ∀ b o, h0.get? b = some o → b ∉ frs l → ∃ o', B.get? b = some o') (covT : ∀ b o, H' b = some o → ∃ o', B.get? b = some o') : Un (frs l) [] H H' h0 h5 ∧ HOk P w H' h5 := by
 have same : ∀ b o o', h3.get? b = some o → B.get? b = some o' → h5.get? b = some o := fun b o o' q1 q2 => by
  have := fl.1 b o' q2
  rw [q1] at this
  cases this
  exact st b o q2
 have slot : ∀ b o, h3.get? b = some o → b ∈ frs l → ∃ sl, h5.get? b = some { o with slots := sl } := fun b o q hb => by
  obtain ⟨_, o', ho', hnr⟩ := fl.2.2.1.mem hb
  rw [q] at ho'
  cases ho'
  exact up b o q hnr
 refine ⟨⟨fun b o q n nb hx => ?_, fun b o q n hb hx => ?_, U.free, fun b o q hx => ?_, U.tups, U.frzs, U.tbls⟩, fun a o q => ?_⟩
 ·obtain ⟨o', hB⟩ := cov b o q nb
  exact same b o o' (U.keep b o q n nb hx) hB
 ·obtain ⟨sl, e1⟩ := U.slot b o q n hb hx
  obtain ⟨sl2, e2⟩ := slot b _ e1 hb
  exact ⟨sl2, e2⟩
 ·obtain ⟨o2, e2⟩ := U.there b o q hx
  by_cases hb : b ∈ frs l
  ·obtain ⟨sl, e3⟩ := slot b o2 e2 hb
   exact ⟨_, e3⟩
  ·obtain ⟨o', hB⟩ := cov b o q hb
   exact ⟨o2, same b o2 o' e2 hB⟩
 ·refine (hok a o q).stay (fun c v hc r => ?_) (fun _ r => r) fun _ _ r => r
  have hT : ∃ o1, H' c = some o1 := by
   rcases hc with rfl | hc
   ·exact ⟨_, q⟩
   ·exact ⟨_, hc⟩
  obtain ⟨o1, h1⟩ := hT
  obtain ⟨o', hB⟩ := covT c o1 h1
  exact same c v o' r hB
end L2
namespace L2
open PySem PySem.Spec PyProof.Rows
section
variable {M : Model} {A : Around} {E : Value → Shared → Prop} {h : Heap} {g : Array GenState} {d : Drawn} {t : Nat} {os : OsState} {e C : Addr} {oe : Obj}
 {nm q : Str} {N : Addr} {bs bm : List Value} {hdct : Bool} {sn : List Str} {sub : List Value} {ab : Bool} {col : Option Bool} {dd : Option Addr} {k0 k1 k2 k3 k5 : Option Value} {newId : String}
 {nm' q' : Str} {N' D : Addr} {bs' bm' : List Value} {hdct' : Bool} {sn' : List Str} {sub' : List Value} {ab' : Bool} {col' : Option Bool} {dd' : Option Addr} {k0' k1' k2' k3' k5' : Option Value} {newId' : String}
end
end L2
namespace L2
open PySem PySem.Spec PyProof.Rows
structure Cau (X : Cx) (pins : List (Addr × Obj)) (σ : L2.St) (H' : Hp) (e t C : Addr) (B : Heap) (s : Shared) : Prop where
 org : ∃ H0 s0, Inv X pins σ H0 s0 ∧ s.os = s0.os ∧ Un (frs X.stack) [] H0 H' s0.heap s.heap ∧ ∀ b o, s0.heap.get? b = some o → b ∉ frs X.stack → ∃ o', B.get? b = some o'
 bare : AllBare s.gens
 hok : HOk X.prog X.w H' s.heap
 fly : Heap.FlyingW B X.stack e (.ref C) (.ref t) s.heap
 cov : ∀ b o, H' b = some o → ∃ o', B.get? b = some o'
section
variable {X : Cx} {pins : List (Addr × Obj)} {σ : L2.St} {H' : Hp} {e t C : Addr} {B h' : Heap} {s : Shared}
theorem Cau.slots {tk : Nat} (c : Cau X pins σ H' e t C B s) (fl : Heap.FlyingW B X.stack e (.ref C) (.ref t) h') (up : s.heap.UpToSlots h') : Cau X pins σ H' e t C B { s with heap := h', toks := tk } := by
 obtain ⟨H0, s0, I, hos, U, cov⟩ := c.org
 obtain ⟨U', hk⟩ := U.held c.hok c.fly fl.1 up cov c.cov
 exact ⟨⟨H0, s0, I, hos, U', cov⟩, c.bare, hk, fl, c.cov⟩
end
section
variable {X : Cx} {pins : List (Addr × Obj)} {σ : L2.St} {H : Hp} {s : Shared} {ev : Value}
end
end L2
namespace L2
open PySem PySem.Spec PyProof.Rows
section
variable {X : Cx} {pins : List (Addr × Obj)} {σ : L2.St} {H' : Hp} {e t C D : Addr} {B : Heap} {s : Shared} {bm : List Value} {x : Str} {np pos : Pos} {name : Option Str} {body : List Stmt} {rest : List ExceptHandler} {Q : Flow → Shared → Prop} {E : Value → Shared → Prop}
end
end L2
namespace L2
open PySem PySem.Spec PyProof.Rows
section
variable {X : Cx} {pins : List (Addr × Obj)} {σ : L2.St} {H' : Hp} {e t C : Addr} {B : Heap} {s : Shared} {bm : List Value} {pos : Pos} {name : Option Str} {body : List Stmt} {rest : List ExceptHandler} {Q : Flow → Shared → Prop} {E : Value → Shared → Prop}
end
end L2
namespace L2
open PySem PySem.Spec PyProof.Rows
section
variable {X : Cx} {pins : List (Addr × Obj)} {σ : L2.St} {H : Hp} {s : Shared}
end
end L2
namespace L2
open PySem PySem.Spec PyProof.Rows
noncomputable def ExcCls (e C : Addr) (h : Heap) : Prop := ∃ o, h.get? e = some o ∧ o.cls = .ref C
section
variable {X : Cx} {pins : List (Addr × Obj)} {σ : L2.St} {H' : Hp} {e t C : Addr} {B : Heap} {s : Shared} {pos : Pos} {E : Value → Shared → Prop}
end
end L2
namespace L2
open PySem PySem.Spec PyProof.Rows
structure Hel (X : Cx) (pins : List (Addr × Obj)) (σ : L2.St) (H' : Hp) (e t C : Addr) (B : Heap) (s : Shared) : Prop where
 org : ∃ H0 s0, Inv X pins σ H0 s0 ∧ s.os = s0.os ∧ Un (frs X.stack) [] H0 H' s0.heap s.heap ∧ ∀ b o, s0.heap.get? b = some o → b ∉ frs X.stack → ∃ o', B.get? b = some o'
 bare : AllBare s.gens
 hok : HOk X.prog X.w H' s.heap
 held : Heap.HeldW B X.stack e (.ref C) (.ref t) X.env.locals s.heap
 cov : ∀ b o, H' b = some o → ∃ o', B.get? b = some o'
theorem un_held {P : Program} {w : World} {l : List Env} {H H' : Hp} {h0 h3 h5 B : Heap} (U : Un (frs l) [] H H' h0 h3) (hok : HOk P w H' h3) (st0 : B.StaysIn h3) (ff : h3.FunFrames B l) (st : B.StaysIn h5) (up : h3.UpToSlots h5)
  (cov : ∀ b o, h0.get? b = some o → b ∉ frs l → ∃ o', B.get? b = some o') (covT : ∀ b o, H' b = some o → ∃ o', B.get? b = some o') : Un (frs l) [] H H' h0 h5 ∧ HOk P w H' h5 := by
 have same : ∀ b o o', h3.get? b = some o → B.get? b = some o' → h5.get? b = some o := fun b o o' q1 q2 => by
  have := st0 b o' q2
  rw [q1] at this
  cases this
  exact st b o q2
 have slot : ∀ b o, h3.get? b = some o → b ∈ frs l → ∃ sl, h5.get? b = some { o with slots := sl } := fun b o q hb => by
  obtain ⟨_, o', ho', hnr⟩ := ff.mem hb
  rw [q] at ho'
  cases ho'
  exact up b o q hnr
 refine ⟨⟨fun b o q n nb hx => ?_, fun b o q n hb hx => ?_, U.free, fun b o q hx => ?_, U.tups, U.frzs, U.tbls⟩, fun a o q => ?_⟩
 ·obtain ⟨o', hB⟩ := cov b o q nb
  exact same b o o' (U.keep b o q n nb hx) hB
 ·obtain ⟨sl, e1⟩ := U.slot b o q n hb hx
  obtain ⟨sl2, e2⟩ := slot b _ e1 hb
  exact ⟨sl2, e2⟩
 ·obtain ⟨o2, e2⟩ := U.there b o q hx
  by_cases hb : b ∈ frs l
  ·obtain ⟨sl, e3⟩ := slot b o2 e2 hb
   exact ⟨_, e3⟩
  ·obtain ⟨o', hB⟩ := cov b o q hb
   exact ⟨o2, same b o2 o' e2 hB⟩
 ·refine (hok a o q).stay (fun c v hc r => ?_) (fun _ r => r) fun _ _ r => r
  have hT : ∃ o1, H' c = some o1 := by
   rcases hc with rfl | hc
   ·exact ⟨_, q⟩
   ·exact ⟨_, hc⟩
  obtain ⟨o1, h1⟩ := hT
  obtain ⟨o', hB⟩ := covT c o1 h1
  exact same c v o' r hB
section
variable {X : Cx} {pins : List (Addr × Obj)} {σ : L2.St} {H H' : Hp} {e t C : Addr} {B : Heap} {s s3 : Shared} {ev : Value} {E : Value → Shared → Prop}
theorem Hel.slots {h' : Heap} (c : Hel X pins σ H' e t C B s) (hl : Heap.HeldW B X.stack e (.ref C) (.ref t) X.env.locals h') (up : s.heap.UpToSlots h') : Hel X pins σ H' e t C B { s with heap := h' } := by
 obtain ⟨H0, s0, I, hos, U, cov⟩ := c.org
 obtain ⟨U', hk⟩ := un_held U c.hok c.held.1 c.held.2.2.1 hl.1 up cov c.cov
 exact ⟨⟨H0, s0, I, hos, U', cov⟩, c.bare, hk, hl, c.cov⟩
end
end L2
namespace Fw
open PySem
noncomputable abbrev Key := Sum Int Str
inductive T where
 | non | bl (b : Bool) | int (i : Int) | str (x : Str)
 | lst (ts : List T) | tup (ts : List T) | dct (kts : List (Key × T)) | exc (c : Str) (t : Option Str)
inductive SV where
 | val (t : T) | cel (k : Nat) | box (xs : List (Sum T Nat))
noncomputable abbrev Store := List (Bool × T)
noncomputable abbrev Slots := List (Option SV)
inductive R (α : Type) where
 | ok (a : α) (μ : Store) | err (c : T) (μ : Store) | bad
noncomputable def R.bind {α β : Type} (x : R α) (f : α → Store → R β) : R β := match x with
 | .ok a μ => f a μ
 | .err c μ => .err c μ
 | .bad => .bad
@[simp] theorem R.bind_ok {α β : Type} (a : α) (μ : Store) (f : α → Store → R β) : (R.ok a μ).bind f = f a μ := (rfl)
noncomputable def R.lift {α : Type} (o : Option α) (μ : Store) : R α := match o with
 | some a => .ok a μ
 | none => .bad
@[simp] theorem R.lift_some {α : Type} (a : α) (μ : Store) : R.lift (some a) μ = .ok a μ := (rfl)
theorem R.bind_eq_ok {α β : Type} {x : R α} {f : α → Store → R β} {b : β} {μ : Store} (h : x.bind f = .ok b μ) : ∃ a μ1, x = .ok a μ1 ∧ f a μ1 = .ok b μ := by
 cases x with
 | ok a μ1 => exact ⟨a, μ1, rfl, h⟩
 | err c μ1 => cases h
 | bad => cases h
theorem R.lift_eq_ok {α : Type} {o : Option α} {μ μ' : Store} {a : α} (h : R.lift o μ = .ok a μ') : o = some a ∧ μ = μ' := by
 cases o with
 | none => cases h
 | some x => cases h; exact ⟨rfl, rfl⟩
noncomputable def R.calm {α : Type} : R α → R α
 | .ok a μ => .ok a μ
 | _ => .bad
@[simp] theorem R.calm_ok {α : Type} (a : α) (μ : Store) : (R.ok a μ).calm = .ok a μ := (rfl)
theorem R.calm_eq {α : Type} {r : R α} {a : α} {μ : Store} (h : r.calm = .ok a μ) : r = .ok a μ := by
 cases r with
 | ok b ν => exact h
 | err c ν => cases h
 | bad => cases h
noncomputable abbrev D := Slots → Store → R SV
noncomputable def szL : Nat := 16777216
noncomputable def rd (μ : Store) : SV → Option T
 | .val t => some t
 | .cel k => (μ[k]?).map (·.2)
 | .box _ => none
@[simp] theorem rd_val (μ : Store) (t : T) : rd μ (.val t) = some t := (rfl)
noncomputable def frz1 (x : Sum T Nat) (μ : Store) : R T := match x with
 | .inl t => .ok t μ
 | .inr k => match μ[k]? with
  | some (_, t) => .ok t (μ.set k (false, t))
  | none => .bad
noncomputable def frz1s : List (Sum T Nat) → Store → R (List T)
 | [], μ => .ok [] μ
 | x :: xs, μ => (frz1 x μ).bind fun t μ1 => (frz1s xs μ1).bind fun ts μ2 => .ok (t :: ts) μ2
noncomputable def frz (sv : SV) (μ : Store) : R T := match sv with
 | .val t => .ok t μ
 | .cel k => match μ[k]? with
  | some (_, t) => .ok t (μ.set k (false, t))
  | none => .bad
 | .box xs => (frz1s xs μ).bind fun ts μ1 => .ok (.tup ts) μ1
@[simp] theorem frz_val (μ : Store) (t : T) : frz (.val t) μ = .ok t μ := (rfl)
noncomputable def frzs : List SV → Store → R (List T)
 | [], μ => .ok [] μ
 | x :: xs, μ => (frz x μ).bind fun t μ1 => (frzs xs μ1).bind fun ts μ2 => .ok (t :: ts) μ2
@[simp] theorem frzs_nil (μ : Store) : frzs [] μ = .ok [] μ := (rfl)
@[simp] theorem frzs_cons (x : SV) (xs : List SV) (μ : Store) : frzs (x :: xs) μ = (frz x μ).bind fun t μ1 => (frzs xs μ1).bind fun ts μ2 => .ok (t :: ts) μ2 := (rfl)
theorem frz1_no (x : Sum T Nat) (μ : Store) (c : T) (μ' : Store) : frz1 x μ ≠ .err c μ' := by
 cases x with
 | inl t => intro h; cases h
 | inr k =>
  unfold frz1
  cases q : μ[k]? with
  | none => simp [q]
  | some p => simp [q]
theorem frz1s_no : ∀ (xs : List (Sum T Nat)) (μ : Store) (c : T) (μ' : Store), frz1s xs μ ≠ .err c μ'
 | [], μ, c, μ' => by intro h; cases h
 | x :: xs, μ, c, μ' => by
  unfold frz1s
  cases q : frz1 x μ with
  | err d μ1 => exact absurd q (frz1_no x μ d μ1)
  | bad => intro h; cases h
  | ok t μ1 =>
   rw [R.bind_ok]
   cases q2 : frz1s xs μ1 with
   | err d μ2 => exact absurd q2 (frz1s_no xs μ1 d μ2)
   | bad => intro h; cases h
   | ok ts μ2 => intro h; cases h
theorem frz_no (x : SV) (μ : Store) (c : T) (μ' : Store) : frz x μ ≠ .err c μ' := by
 cases x with
 | val t => intro h; cases h
 | cel k =>
  unfold frz
  cases q : μ[k]? with
  | none => simp [q]
  | some p => simp [q]
 | box xs =>
  show (frz1s xs μ).bind _ ≠ _
  cases q : frz1s xs μ with
  | err d μ1 => exact absurd q (frz1s_no xs μ d μ1)
  | bad => intro h; cases h
  | ok t μ1 => intro h; cases h
theorem frzs_no : ∀ (xs : List SV) (μ : Store) (c : T) (μ' : Store), frzs xs μ ≠ .err c μ'
 | [], μ, c, μ' => by intro h; cases h
 | x :: xs, μ, c, μ' => by
  rw [frzs_cons]
  cases q : frz x μ with
  | err d μ1 => exact absurd q (frz_no x μ d μ1)
  | bad => intro h; cases h
  | ok t μ1 =>
   rw [R.bind_ok]
   cases q2 : frzs xs μ1 with
   | err d μ2 => exact absurd q2 (frzs_no xs μ1 d μ2)
   | bad => intro h; cases h
   | ok ts μ2 => intro h; cases h
noncomputable def slot (e : Slots) (i : Nat) : Option SV := match e[i]? with
 | some (some sv) => some sv
 | _ => none
@[simp] theorem slot_zero (x : SV) (e : Slots) : slot (some x :: e) 0 = some x := (rfl)
@[simp] theorem slot_none (e : Slots) : slot (none :: e) 0 = none := (rfl)
@[simp] theorem slot_succ (x : Option SV) (e : Slots) (i : Nat) : slot (x :: e) (i + 1) = slot e i := (rfl)
noncomputable def dVar (i : Nat) : D := fun e μ => R.lift (slot e i) μ
@[simp] theorem dVar_is (i : Nat) (e : Slots) (μ : Store) : dVar i e μ = R.lift (slot e i) μ := (rfl)
noncomputable def dC (t : T) : D := fun _ μ => .ok (.val t) μ
@[simp] theorem dC_is (t : T) (e : Slots) (μ : Store) : dC t e μ = .ok (.val t) μ := (rfl)
noncomputable def ap1 (f : T → Option T) : Option T → Option SV
 | some t => (f t).map SV.val
 | none => none
noncomputable def ap2 (f : T → T → Option T) : Option T → Option T → Option SV
 | some t, some u => (f t u).map SV.val
 | _, _ => none
@[simp] theorem ap1_some (f : T → Option T) (t : T) : ap1 f (some t) = (f t).map SV.val := (rfl)
@[simp] theorem ap2_some (f : T → T → Option T) (t u : T) : ap2 f (some t) (some u) = (f t u).map SV.val := (rfl)
theorem ap1_eq {f : T → Option T} {o : Option T} {w : SV} (h : ap1 f o = some w) : ∃ t u, o = some t ∧ f t = some u ∧ w = .val u := by
 cases o with
 | none => cases h
 | some t =>
  obtain ⟨u, h1, rfl⟩ := Option.map_eq_some_iff.mp (show (f t).map SV.val = some w from h)
  exact ⟨t, u, rfl, h1, rfl⟩
theorem ap2_eq {f : T → T → Option T} {o p : Option T} {w : SV} (h : ap2 f o p = some w) : ∃ t u v, o = some t ∧ p = some u ∧ f t u = some v ∧ w = .val v := by
 cases o with
 | none => cases p <;> cases h
 | some t =>
  cases p with
  | none => cases h
  | some u =>
   obtain ⟨v, h1, rfl⟩ := Option.map_eq_some_iff.mp (show (f t u).map SV.val = some w from h)
   exact ⟨t, u, v, rfl, rfl, h1, rfl⟩
noncomputable def dUn (f : T → Option T) (a : D) : D := fun e μ => (a e μ).bind fun x μ1 => R.lift (ap1 f (rd μ1 x)) μ1
@[simp] theorem dUn_is (f : T → Option T) (a : D) (e : Slots) (μ : Store) : dUn f a e μ = (a e μ).bind fun x μ1 => R.lift (ap1 f (rd μ1 x)) μ1 := (rfl)
noncomputable def dBin (f : T → T → Option T) (a b : D) : D := fun e μ => (a e μ).bind fun x μ1 => (b e μ1).bind fun y μ2 => R.lift (ap2 f (rd μ2 x) (rd μ2 y)) μ2
@[simp] theorem dBin_is (f : T → T → Option T) (a b : D) (e : Slots) (μ : Store) : dBin f a b e μ = (a e μ).bind fun x μ1 => (b e μ1).bind fun y μ2 => R.lift (ap2 f (rd μ2 x) (rd μ2 y)) μ2 := (rfl)
noncomputable def asB : SV → Option Bool
 | .val (.bl b) => some b
 | _ => none
@[simp] theorem asB_bl (b : Bool) : asB (.val (.bl b)) = some b := (rfl)
noncomputable def dAnd (a b : D) : D := fun e μ => (a e μ).bind fun x μ1 => (R.lift (asB x) μ1).bind fun k μ1 => if k = true then b e μ1 else .ok (.val (.bl false)) μ1
noncomputable def dOr (a b : D) : D := fun e μ => (a e μ).bind fun x μ1 => (R.lift (asB x) μ1).bind fun k μ1 => if k = true then .ok (.val (.bl true)) μ1 else b e μ1
noncomputable def dNot (a : D) : D := fun e μ => (a e μ).bind fun x μ1 => (R.lift (asB x) μ1).bind fun k μ1 => .ok (.val (.bl (!k))) μ1
noncomputable def dIfx (c a b : D) : D := fun e μ => (c e μ).bind fun x μ1 => (R.lift (asB x) μ1).bind fun k μ1 => if k = true then a e μ1 else b e μ1
@[simp] theorem dAnd_is (a b : D) (e : Slots) (μ : Store) : dAnd a b e μ = (a e μ).bind fun x μ1 => (R.lift (asB x) μ1).bind fun k μ1 => if k = true then b e μ1 else .ok (.val (.bl false)) μ1 := (rfl)
@[simp] theorem dOr_is (a b : D) (e : Slots) (μ : Store) : dOr a b e μ = (a e μ).bind fun x μ1 => (R.lift (asB x) μ1).bind fun k μ1 => if k = true then .ok (.val (.bl true)) μ1 else b e μ1 := (rfl)
@[simp] theorem dNot_is (a : D) (e : Slots) (μ : Store) : dNot a e μ = (a e μ).bind fun x μ1 => (R.lift (asB x) μ1).bind fun k μ1 => .ok (.val (.bl (!k))) μ1 := (rfl)
@[simp] theorem dIfx_is (c a b : D) (e : Slots) (μ : Store) : dIfx c a b e μ = (c e μ).bind fun x μ1 => (R.lift (asB x) μ1).bind fun k μ1 => if k = true then a e μ1 else b e μ1 := (rfl)
noncomputable def dArgs : List D → Slots → Store → R (List SV)
 | [], _, μ => .ok [] μ
 | d :: ds, e, μ => (d e μ).bind fun x μ1 => (dArgs ds e μ1).bind fun xs μ2 => .ok (x :: xs) μ2
@[simp] theorem dArgs_nil (e : Slots) (μ : Store) : dArgs [] e μ = .ok [] μ := (rfl)
@[simp] theorem dArgs_cons (d : D) (ds : List D) (e : Slots) (μ : Store) : dArgs (d :: ds) e μ = (d e μ).bind fun x μ1 => (dArgs ds e μ1).bind fun xs μ2 => .ok (x :: xs) μ2 := (rfl)
noncomputable def dTup (ds : List D) : D := fun e μ => (dArgs ds e μ).bind fun xs μ1 => (frzs xs μ1).bind fun ts μ2 => .ok (.val (.tup ts)) μ2
noncomputable def dLst (ds : List D) : D := fun e μ => (dArgs ds e μ).bind fun xs μ1 => (frzs xs μ1).bind fun ts μ2 => .ok (.val (.lst ts)) μ2
@[simp] theorem dTup_is (ds : List D) (e : Slots) (μ : Store) : dTup ds e μ = (dArgs ds e μ).bind fun xs μ1 => (frzs xs μ1).bind fun ts μ2 => .ok (.val (.tup ts)) μ2 := (rfl)
@[simp] theorem dLst_is (ds : List D) (e : Slots) (μ : Store) : dLst ds e μ = (dArgs ds e μ).bind fun xs μ1 => (frzs xs μ1).bind fun ts μ2 => .ok (.val (.lst ts)) μ2 := (rfl)
noncomputable def dRep (f : T → T → Option T) (ds : List D) (b : D) : D := fun e μ => (dArgs ds e μ).bind fun xs μ1 => (frzs xs μ1).bind fun ts μ2 => (b e μ2).bind fun y μ3 => R.lift (ap1 (f (.lst ts)) (rd μ3 y)) μ3
@[simp] theorem dRep_is (f : T → T → Option T) (ds : List D) (b : D) (e : Slots) (μ : Store) : dRep f ds b e μ = (dArgs ds e μ).bind fun xs μ1 => (frzs xs μ1).bind fun ts μ2 => (b e μ2).bind fun y μ3 => R.lift (ap1 (f (.lst ts)) (rd μ3 y)) μ3 := (rfl)
noncomputable def boxed : List SV → Option (List (Sum T Nat))
 | [] => some []
 | .val t :: xs => (boxed xs).map fun ys => .inl t :: ys
 | .cel k :: xs => (boxed xs).map fun ys => .inr k :: ys
 | .box _ :: _ => none
noncomputable def dBox (ds : List D) : D := fun e μ => (dArgs ds e μ).bind fun xs μ1 => (R.lift (boxed xs) μ1).bind fun ys μ1 => .ok (.box ys) μ1
@[simp] theorem dBox_is (ds : List D) (e : Slots) (μ : Store) : dBox ds e μ = (dArgs ds e μ).bind fun xs μ1 => (R.lift (boxed xs) μ1).bind fun ys μ1 => .ok (.box ys) μ1 := (rfl)
noncomputable def cell (t : T) (μ : Store) : R SV := .ok (.cel μ.length) (μ ++ [(true, t)])
noncomputable def dCell (d : D) : D := fun e μ => (d e μ).bind fun x μ1 => match x with
 | .val t => cell t μ1
 | .cel k => .ok (.cel k) μ1
 | .box xs => .ok (.box xs) μ1
noncomputable def toCell (x : SV) (μ : Store) : R SV := match x with
 | .val t => cell t μ
 | .cel k => .ok (.cel k) μ
 | .box xs => .ok (.box xs) μ
@[simp] theorem toCell_val (t : T) (μ : Store) : toCell (.val t) μ = .ok (.cel μ.length) (μ ++ [(true, t)]) := (rfl)
@[simp] theorem dCell_is (d : D) (e : Slots) (μ : Store) : dCell d e μ = (d e μ).bind toCell := by
 unfold dCell toCell; rfl
noncomputable abbrev FN := List SV → Store → R SV
noncomputable def dCall (f : FN) (ds : List D) : D := fun e μ => (dArgs ds e μ).bind fun xs μ1 => f xs μ1
@[simp] theorem dCall_is (f : FN) (ds : List D) (e : Slots) (μ : Store) : dCall f ds e μ = (dArgs ds e μ).bind fun xs μ1 => f xs μ1 := (rfl)
noncomputable def cal (f : FN) : FN := fun xs μ => (f xs μ).calm
@[simp] theorem cal_is (f : FN) (xs : List SV) (μ : Store) : cal f xs μ = (f xs μ).calm := (rfl)
noncomputable def ixN (n : Nat) (i : Int) : Option Nat := if 0 ≤ i then (if i < n then some i.toNat else none) else if -(n : Int) ≤ i then some (i + n).toNat else none
noncomputable def atI {α : Type} (xs : List α) (i : Int) : Option α := (ixN xs.length i).bind fun j => xs[j]?
noncomputable def sIx (n d : Nat) : Option Int → Nat
 | none => d
 | some v => if v < 0 then (v + (n : Int)).toNat else min v.toNat n
noncomputable def fAdd : T → T → Option T
 | .int i, .int j => some (.int (i + j))
 | .str x, .str y => if x.length + y.length ≤ szL then some (.str (x ++ y)) else none
 | .tup xs, .tup ys => if xs.length + ys.length ≤ szL then some (.tup (xs ++ ys)) else none
 | .lst xs, .lst ys => if xs.length + ys.length ≤ szL then some (.lst (xs ++ ys)) else none
 | _, _ => none
theorem fAdd_lst (xs ys : List T) (h : xs.length + ys.length ≤ szL) : fAdd (.lst xs) (.lst ys) = some (.lst (xs ++ ys)) := if_pos h
@[simp] theorem fAdd_int (i j : Int) : fAdd (.int i) (.int j) = some (.int (i + j)) := (rfl)
noncomputable def fRep : T → T → Option T
 | .lst xs, .int k => if -(2 ^ 63) ≤ k ∧ k < 2 ^ 63 ∧ xs.length * k.toNat ≤ szL then some (.lst (List.replicate k.toNat xs).flatten) else none
 | _, _ => none
noncomputable def fSub : T → T → Option T
 | .int i, .int j => some (.int (i - j))
 | _, _ => none
@[simp] theorem fSub_int (i j : Int) : fSub (.int i) (.int j) = some (.int (i - j)) := (rfl)
noncomputable def fMul : T → T → Option T
 | .int i, .int j => if (-(2 ^ 64) < i ∧ i < 2 ^ 64) ∨ (-(2 ^ 64) < j ∧ j < 2 ^ 64) then some (.int (i * j)) else none
 | _, _ => none
noncomputable def fMulA (t u : T) : Option T := fMul t u
theorem fMul_l (i j : Int) (h1 : -18446744073709551616 < i) (h2 : i < 18446744073709551616) : fMul (.int i) (.int j) = some (.int (i * j)) := if_pos (.inl ⟨h1, h2⟩)
theorem fMul_r (i j : Int) (h1 : -18446744073709551616 < j) (h2 : j < 18446744073709551616) : fMul (.int i) (.int j) = some (.int (i * j)) := if_pos (.inr ⟨h1, h2⟩)
@[simp] theorem fMulA_l (i j : Int) (h1 : -18446744073709551616 < i) (h2 : i < 18446744073709551616) : fMulA (.int i) (.int j) = some (.int (i * j)) := fMul_l i j h1 h2
@[simp] theorem fMulA_r (i j : Int) (h1 : -18446744073709551616 < j) (h2 : j < 18446744073709551616) : fMulA (.int i) (.int j) = some (.int (i * j)) := fMul_r i j h1 h2
noncomputable def fMod : T → T → Option T
 | .int i, .int j => if 0 < j then some (.int (i % j)) else none
 | _, _ => none
@[simp] theorem fMod_int (i j : Int) (h : 0 < j) : fMod (.int i) (.int j) = some (.int (i % j)) := if_pos h
noncomputable def fDiv : T → T → Option T
 | .int i, .int j => if 0 < j ∧ j < 1073741824 then some (.int (i / j)) else none
 | _, _ => none
@[simp] theorem fDiv_int (i j : Int) (h : 0 < j) (h2 : j < 1073741824) : fDiv (.int i) (.int j) = some (.int (i / j)) := if_pos ⟨h, h2⟩
noncomputable def fNeg : T → Option T
 | .int i => some (.int (-i))
 | _ => none
@[simp] theorem fNeg_int (i : Int) : fNeg (.int i) = some (.int (-i)) := (rfl)
noncomputable def fLt : T → T → Option T
 | .int i, .int j => some (.bl (decide (i < j)))
 | _, _ => none
noncomputable def fLe : T → T → Option T
 | .int i, .int j => some (.bl (decide (i ≤ j)))
 | _, _ => none
noncomputable def fGt : T → T → Option T
 | .int i, .int j => some (.bl (decide (j < i)))
 | _, _ => none
noncomputable def fGe : T → T → Option T
 | .int i, .int j => some (.bl (decide (j ≤ i)))
 | _, _ => none
@[simp] theorem fLt_int (i j : Int) : fLt (.int i) (.int j) = some (.bl (decide (i < j))) := (rfl)
@[simp] theorem fLe_int (i j : Int) : fLe (.int i) (.int j) = some (.bl (decide (i ≤ j))) := (rfl)
@[simp] theorem fGt_int (i j : Int) : fGt (.int i) (.int j) = some (.bl (decide (j < i))) := (rfl)
@[simp] theorem fGe_int (i j : Int) : fGe (.int i) (.int j) = some (.bl (decide (j ≤ i))) := (rfl)
mutual
noncomputable def eqT : T → T → Bool
 | .non, .non => true
 | .bl a, .bl b => a == b
 | .bl a, .int b => (if a then 1 else 0) == b
 | .int a, .bl b => a == (if b then 1 else 0)
 | .int a, .int b => a == b
 | .str a, .str b => a == b
 | .lst a, .lst b => eqTs a b
 | .tup a, .tup b => eqTs a b
 | _, _ => false
noncomputable def eqTs : List T → List T → Bool
 | [], [] => true
 | a :: as, b :: bs => eqT a b && eqTs as bs
 | [], _ :: _ => false
 | _ :: _, [] => false
end
mutual
noncomputable def okT : Nat → T → Bool
 | _, .non => true
 | _, .bl _ => true
 | _, .int _ => true
 | _, .str x => x.cps.all (· < 1114112)
 | 0, .lst _ => false
 | n + 1, .lst ts => okTs n ts
 | 0, .tup _ => false
 | n + 1, .tup ts => okTs n ts
 | _, .dct _ => false
 | _, .exc _ _ => false
noncomputable def okTs : Nat → List T → Bool
 | _, [] => true
 | n, t :: ts => okT n t && okTs n ts
end
noncomputable def fEq (t u : T) : Option T := match t, u with
 | .str a, .str b => some (.bl (a == b))
 | t, u => if okT 100 t = true ∧ okT 100 u = true then some (.bl (eqT t u)) else none
noncomputable def fNe (t u : T) : Option T := match t, u with
 | .str a, .str b => some (.bl (!(a == b)))
 | t, u => if okT 100 t = true ∧ okT 100 u = true then some (.bl (!eqT t u)) else none
@[simp] theorem okT_int (n : Nat) (i : Int) : okT n (.int i) = true := by unfold okT; rfl
@[simp] theorem okT_lst (n : Nat) (ts : List T) : okT (n + 1) (.lst ts) = okTs n ts := by rw [okT]
@[simp] theorem okT_tup (n : Nat) (ts : List T) : okT (n + 1) (.tup ts) = okTs n ts := by rw [okT]
@[simp] theorem okTs_nil (n : Nat) : okTs n [] = true := by rw [okTs]
@[simp] theorem okTs_cons (n : Nat) (t : T) (ts : List T) : okTs n (t :: ts) = (okT n t && okTs n ts) := by rw [okTs]
theorem okTs_iff (n : Nat) : ∀ ts : List T, okTs n ts = true ↔ ∀ t ∈ ts, okT n t = true
 | [] => by simp
 | t :: ts => by simp [okTs_iff n ts]
@[simp] theorem okTs_ints (n : Nat) (ns : List Int) : okTs n (ns.map T.int) = true := by
 rw [okTs_iff]
 intro t ht
 obtain ⟨i, _, rfl⟩ := List.mem_map.mp ht
 simp
@[simp] theorem eqT_int (i j : Int) : eqT (.int i) (.int j) = (i == j) := by rw [eqT]
@[simp] theorem eqT_str (i j : Str) : eqT (.str i) (.str j) = (i == j) := by rw [eqT]
@[simp] theorem eqT_bl (i j : Bool) : eqT (.bl i) (.bl j) = (i == j) := by rw [eqT]
@[simp] theorem eqT_non : eqT .non .non = true := by rw [eqT]
@[simp] theorem eqT_lst (i j : List T) : eqT (.lst i) (.lst j) = eqTs i j := by rw [eqT]
@[simp] theorem eqT_tup (i j : List T) : eqT (.tup i) (.tup j) = eqTs i j := by rw [eqT]
@[simp] theorem eqTs_nil : eqTs [] [] = true := by rw [eqTs]
@[simp] theorem eqTs_cons (a b : T) (as bs : List T) : eqTs (a :: as) (b :: bs) = (eqT a b && eqTs as bs) := by rw [eqTs]
@[simp] theorem eqTs_nc (b : T) (bs : List T) : eqTs [] (b :: bs) = false := by rw [eqTs]
@[simp] theorem eqTs_cn (b : T) (bs : List T) : eqTs (b :: bs) [] = false := by rw [eqTs]
mutual
theorem eqT_refl : ∀ (n : Nat) (t : T), okT n t = true → eqT t t = true
 | n, .non, _ => by simp
 | n, .bl b, _ => by simp
 | n, .int i, _ => by simp
 | n, .str x, _ => by simp
 | 0, .lst ts, h => by rw [okT] at h; cases h
 | n + 1, .lst ts, h => by simp only [eqT_lst]; exact eqTs_refl n ts (by simpa using h)
 | 0, .tup ts, h => by rw [okT] at h; cases h
 | n + 1, .tup ts, h => by simp only [eqT_tup]; exact eqTs_refl n ts (by simpa using h)
 | n, .dct _, h => by unfold okT at h; cases h
 | n, .exc _ _, h => by unfold okT at h; cases h
theorem eqTs_refl : ∀ (n : Nat) (ts : List T), okTs n ts = true → eqTs ts ts = true
 | n, [], _ => by simp
 | n, t :: ts, h => by
  simp only [okTs_cons, Bool.and_eq_true] at h
  simp [eqT_refl n t h.1, eqTs_refl n ts h.2]
end
theorem eqTs_ints : ∀ (xs ys : List Int), eqTs (xs.map T.int) (ys.map T.int) = (xs == ys)
 | [], [] => by simp
 | [], y :: ys => by simp
 | x :: xs, [] => by simp
 | x :: xs, y :: ys => by simp [eqTs_ints xs ys]
theorem fEq_ok {t u : T} (h1 : okT 100 t = true) (h2 : okT 100 u = true) : fEq t u = some (.bl (eqT t u)) := by
 unfold fEq
 split
 ·simp
 ·rw [if_pos ⟨h1, h2⟩]
theorem fNe_ok {t u : T} (h1 : okT 100 t = true) (h2 : okT 100 u = true) : fNe t u = some (.bl (!eqT t u)) := by
 unfold fNe
 split
 ·simp
 ·rw [if_pos ⟨h1, h2⟩]
@[simp] theorem fEq_int (i j : Int) : fEq (.int i) (.int j) = some (.bl (i == j)) := by rw [fEq_ok (by simp) (by simp)]; simp
@[simp] theorem fNe_int (i j : Int) : fNe (.int i) (.int j) = some (.bl (!(i == j))) := by rw [fNe_ok (by simp) (by simp)]; simp
@[simp] theorem fEq_str (i j : Str) : fEq (.str i) (.str j) = some (.bl (i == j)) := (rfl)
@[simp] theorem fNe_str (i j : Str) : fNe (.str i) (.str j) = some (.bl (!(i == j))) := (rfl)
@[simp] theorem fEq_ints (xs ys : List Int) : fEq (.lst (xs.map T.int)) (.lst (ys.map T.int)) = some (.bl (xs == ys)) := by rw [fEq_ok (by simp) (by simp)]; simp [eqTs_ints]
@[simp] theorem fNe_ints (xs ys : List Int) : fNe (.lst (xs.map T.int)) (.lst (ys.map T.int)) = some (.bl (!(xs == ys))) := by rw [fNe_ok (by simp) (by simp)]; simp [eqTs_ints]
@[simp] theorem fNe_intsT (xs ys : List Int) : fNe (.tup (xs.map T.int)) (.tup (ys.map T.int)) = some (.bl (!(xs == ys))) := by rw [fNe_ok (by simp) (by simp)]; simp [eqTs_ints]
noncomputable def isNon : T → Option T
 | .non => some (.bl true)
 | _ => some (.bl false)
noncomputable def fIdx : T → T → Option T
 | .lst xs, .int i => atI xs i
 | .tup xs, .int i => atI xs i
 | .str x, .int i => if x.length ≤ szL then (atI x.cps.toList i).map fun c => .str ⟨#[c]⟩ else none
 | _, _ => none
noncomputable def pick : Sum T Nat → SV
 | .inl t => .val t
 | .inr k => .cel k
noncomputable def idxS (μ : Store) (x : SV) (u : T) : Option SV := match x, u with
 | .box xs, .int i => (atI xs i).map pick
 | .box _, _ => none
 | x, u => ap1 (fun t => fIdx t u) (rd μ x)
noncomputable def dIdx (a b : D) : D := fun e μ => (a e μ).bind fun x μ1 => (b e μ1).bind fun y μ2 => R.lift ((rd μ2 y).bind fun u => idxS μ2 x u) μ2
@[simp] theorem dIdx_is (a b : D) (e : Slots) (μ : Store) : dIdx a b e μ = (a e μ).bind fun x μ1 => (b e μ1).bind fun y μ2 => R.lift ((rd μ2 y).bind fun u => idxS μ2 x u) μ2 := (rfl)
@[simp] theorem idxS_lst (μ : Store) (xs : List T) (i : Int) : idxS μ (.val (.lst xs)) (.int i) = (atI xs i).map SV.val := (rfl)
@[simp] theorem idxS_tup (μ : Store) (xs : List T) (i : Int) : idxS μ (.val (.tup xs)) (.int i) = (atI xs i).map SV.val := (rfl)
@[simp] theorem idxS_box (μ : Store) (xs : List (Sum T Nat)) (i : Int) : idxS μ (.box xs) (.int i) = (atI xs i).map pick := (rfl)
@[simp] theorem idxS_cel (μ : Store) (k : Nat) (u : T) : idxS μ (.cel k) u = ap1 (fun t => fIdx t u) (rd μ (.cel k)) := (rfl)
noncomputable def fLen : T → Option T
 | .lst xs => some (.int xs.length)
 | .tup xs => some (.int xs.length)
 | .str x => if x.length ≤ szL then some (.int x.length) else none
 | .dct kts => some (.int kts.length)
 | _ => none
noncomputable def lenS (μ : Store) : SV → Option T
 | .box xs => some (.int xs.length)
 | x => (rd μ x).bind fLen
noncomputable def dLen (a : D) : D := fun e μ => (a e μ).bind fun x μ1 => R.lift ((lenS μ1 x).map SV.val) μ1
@[simp] theorem dLen_is (a : D) (e : Slots) (μ : Store) : dLen a e μ = (a e μ).bind fun x μ1 => R.lift ((lenS μ1 x).map SV.val) μ1 := (rfl)
@[simp] theorem lenS_lst (μ : Store) (xs : List T) : lenS μ (.val (.lst xs)) = some (.int xs.length) := (rfl)
@[simp] theorem lenS_tup (μ : Store) (xs : List T) : lenS μ (.val (.tup xs)) = some (.int xs.length) := (rfl)
@[simp] theorem lenS_cel (μ : Store) (k : Nat) : lenS μ (.cel k) = (rd μ (.cel k)).bind fLen := (rfl)
inductive Kd where
 | int | bool | str | list | tuple | dict
noncomputable def isK : Kd → T → Bool
 | .int, .int _ => true
 | .int, .bl _ => true
 | .bool, .bl _ => true
 | .str, .str _ => true
 | .list, .lst _ => true
 | .tuple, .tup _ => true
 | .dict, .dct _ => true
 | _, _ => false
noncomputable def isT (k : Kd) : T → Option T
 | .exc _ _ => none
 | t => some (.bl (isK k t))
noncomputable def isS (k : Kd) (μ : Store) : SV → Option T
 | .box _ => some (.bl (isK k (.tup [])))
 | x => (rd μ x).bind (isT k)
@[simp] theorem isT_int (k : Kd) (i : Int) : isT k (.int i) = some (.bl (isK k (.int i))) := (rfl)
noncomputable def dIs (k : Kd) (a : D) : D := fun e μ => (a e μ).bind fun x μ1 => R.lift ((isS k μ1 x).map SV.val) μ1
@[simp] theorem dIs_is (k : Kd) (a : D) (e : Slots) (μ : Store) : dIs k a e μ = (a e μ).bind fun x μ1 => R.lift ((isS k μ1 x).map SV.val) μ1 := (rfl)
@[simp] theorem isS_val (k : Kd) (μ : Store) (t : T) : isS k μ (.val t) = isT k t := (rfl)
@[simp] theorem isS_cel (k : Kd) (μ : Store) (j : Nat) : isS k μ (.cel j) = (rd μ (.cel j)).bind (isT k) := (rfl)
noncomputable def fTuple : T → Option T
 | .lst xs => some (.tup xs)
 | .tup xs => some (.tup xs)
 | _ => none
@[simp] theorem fTuple_lst (xs : List T) : fTuple (.lst xs) = some (.tup xs) := (rfl)
@[simp] theorem fTuple_tup (xs : List T) : fTuple (.tup xs) = some (.tup xs) := (rfl)
noncomputable def fList : T → Option T
 | .lst xs => some (.lst xs)
 | .tup xs => some (.lst xs)
 | _ => none
noncomputable def keyT : Key → T
 | .inl i => .int i
 | .inr x => .str x
noncomputable def fKeys : T → Option T
 | .dct kts => some (.lst (kts.map fun p => keyT p.1))
 | _ => none
@[simp] theorem fList_lst (xs : List T) : fList (.lst xs) = some (.lst xs) := (rfl)
noncomputable def cutT {α : Type} (xs : List α) (lo hi : Option Int) : List α := (xs.drop (sIx xs.length 0 lo)).take (sIx xs.length xs.length hi - sIx xs.length 0 lo)
noncomputable def asInt : T → Option Int
 | .int i => some i
 | _ => none
@[simp] theorem asInt_int (i : Int) : asInt (.int i) = some i := (rfl)
noncomputable def asInts : List T → Option (List Int)
 | [] => some []
 | t :: ts => (asInt t).bind fun i => (asInts ts).map fun is => i :: is
theorem asInts_map (ns : List Int) : asInts (ns.map T.int) = some ns := by
 induction ns with
 | nil => rfl
 | cons n ns ih => simp [asInts, ih]
noncomputable def fSum : T → Option T
 | .lst xs => (asInts xs).map fun is => .int is.sum
 | _ => none
@[simp] theorem fSum_ints (ns : List Int) : fSum (.lst (ns.map T.int)) = some (.int ns.sum) := by simp [fSum, asInts_map]
noncomputable def notNon : T → Option T
 | .non => some (.bl false)
 | _ => some (.bl true)
@[simp] theorem isNon_non : isNon .non = some (.bl true) := (rfl)
@[simp] theorem isNon_int (i : Int) : isNon (.int i) = some (.bl false) := (rfl)
@[simp] theorem notNon_non : notNon .non = some (.bl false) := (rfl)
@[simp] theorem notNon_int (i : Int) : notNon (.int i) = some (.bl true) := (rfl)
noncomputable def dChain (f g : T → T → Option T) (a b c : D) : D := fun e μ => (a e μ).bind fun x μ1 => (b e μ1).bind fun y μ2 =>
 (R.lift (ap2 f (rd μ2 x) (rd μ2 y)) μ2).bind fun w μ2 => (R.lift (asB w) μ2).bind fun k μ2 =>
 if k = true then (c e μ2).bind fun z μ3 => R.lift (ap2 g (rd μ3 y) (rd μ3 z)) μ3 else .ok (.val (.bl false)) μ2
@[simp] theorem dChain_is (f g : T → T → Option T) (a b c : D) (e : Slots) (μ : Store) : dChain f g a b c e μ = (a e μ).bind fun x μ1 => (b e μ1).bind fun y μ2 =>
 (R.lift (ap2 f (rd μ2 x) (rd μ2 y)) μ2).bind fun w μ2 => (R.lift (asB w) μ2).bind fun k μ2 =>
 if k = true then (c e μ2).bind fun z μ3 => R.lift (ap2 g (rd μ3 y) (rd μ3 z)) μ3 else .ok (.val (.bl false)) μ2 := (rfl)
noncomputable def fCut (t : T) (lo hi : Option Int) : Option T := match t with
 | .lst xs => some (.lst (cutT xs lo hi))
 | .tup xs => if sIx xs.length 0 lo = 0 ∧ sIx xs.length xs.length hi = xs.length then none else some (.tup (cutT xs lo hi))
 | _ => none
noncomputable def dOpt (o : Option D) (e : Slots) (μ : Store) : R (Option Int) := match o with
 | none => .ok none μ
 | some d => (d e μ).bind fun x μ1 => (R.lift ((rd μ1 x).bind asInt) μ1).bind fun i μ1 => .ok (some i) μ1
@[simp] theorem dOpt_none (e : Slots) (μ : Store) : dOpt none e μ = .ok none μ := (rfl)
@[simp] theorem dOpt_some (d : D) (e : Slots) (μ : Store) : dOpt (some d) e μ = (d e μ).bind fun x μ1 => (R.lift ((rd μ1 x).bind asInt) μ1).bind fun i μ1 => .ok (some i) μ1 := (rfl)
noncomputable def dCut (a : D) (lo hi : Option D) : D := fun e μ => (a e μ).bind fun x μ1 => (dOpt lo e μ1).bind fun l μ2 => (dOpt hi e μ2).bind fun h μ3 => R.lift (ap1 (fun t => fCut t l h) (rd μ3 x)) μ3
@[simp] theorem dCut_is (a : D) (lo hi : Option D) (e : Slots) (μ : Store) : dCut a lo hi e μ = (a e μ).bind fun x μ1 => (dOpt lo e μ1).bind fun l μ2 => (dOpt hi e μ2).bind fun h μ3 => R.lift (ap1 (fun t => fCut t l h) (rd μ3 x)) μ3 := (rfl)
inductive RS where
 | nx (e : Slots) (μ : Store) | rt (x : SV) (μ : Store) | bk (e : Slots) (μ : Store) | ct (e : Slots) (μ : Store) | err (c : T) (e : Slots) (μ : Store) | bad
noncomputable abbrev DS := Slots → Store → RS
noncomputable def R.toS {α : Type} (x : R α) (e : Slots) (f : α → Store → RS) : RS := match x with
 | .ok a μ => f a μ
 | .err c μ => .err c e μ
 | .bad => .bad
@[simp] theorem R.toS_ok {α : Type} (a : α) (e : Slots) (μ : Store) (f : α → Store → RS) : (R.ok a μ).toS e f = f a μ := (rfl)
@[simp] theorem R.toS_err {α : Type} (c : T) (e : Slots) (μ : Store) (f : α → Store → RS) : (R.err c μ : R α).toS e f = .err c e μ := (rfl)
noncomputable def RS.seq (r : RS) (f : Slots → Store → RS) : RS := match r with
 | .nx e μ => f e μ
 | r => r
@[simp] theorem RS.seq_nx (e : Slots) (μ : Store) (f : Slots → Store → RS) : (RS.nx e μ).seq f = f e μ := (rfl)
@[simp] theorem RS.seq_rt (x : SV) (μ : Store) (f : Slots → Store → RS) : (RS.rt x μ).seq f = .rt x μ := (rfl)
noncomputable def sNil : DS := fun e μ => .nx e μ
noncomputable def sSeq (a b : DS) : DS := fun e μ => (a e μ).seq b
noncomputable def sExpr (d : D) : DS := fun e μ => (d e μ).toS e fun _ μ1 => .nx e μ1
noncomputable def sSet (i : Nat) (d : D) : DS := fun e μ => (d e μ).toS e fun x μ1 => .nx (e.set i (some x)) μ1
noncomputable def sRet (d : D) : DS := fun e μ => (d e μ).toS e fun x μ1 => .rt x μ1
noncomputable def sIf (c : D) (a b : DS) : DS := fun e μ => (c e μ).toS e fun x μ1 => (R.lift (asB x) μ1).toS e fun k μ1 => if k = true then a e μ1 else b e μ1
noncomputable def sBad : DS := fun _ _ => .bad
@[simp] theorem sNil_is (e : Slots) (μ : Store) : sNil e μ = .nx e μ := (rfl)
@[simp] theorem sSeq_is (a b : DS) (e : Slots) (μ : Store) : sSeq a b e μ = (a e μ).seq b := (rfl)
@[simp] theorem sExpr_is (d : D) (e : Slots) (μ : Store) : sExpr d e μ = (d e μ).toS e fun _ μ1 => .nx e μ1 := (rfl)
@[simp] theorem sSet_is (i : Nat) (d : D) (e : Slots) (μ : Store) : sSet i d e μ = (d e μ).toS e fun x μ1 => .nx (e.set i (some x)) μ1 := (rfl)
@[simp] theorem sRet_is (d : D) (e : Slots) (μ : Store) : sRet d e μ = (d e μ).toS e fun x μ1 => .rt x μ1 := (rfl)
@[simp] theorem sIf_is (c : D) (a b : DS) (e : Slots) (μ : Store) : sIf c a b e μ = (c e μ).toS e fun x μ1 => (R.lift (asB x) μ1).toS e fun k μ1 => if k = true then a e μ1 else b e μ1 := (rfl)
noncomputable def appendAt (x : SV) (t : T) (μ : Store) : Option Store := match x with
 | .cel k => match μ[k]? with
  | some (true, .lst ts) => if ts.length < szL then some (μ.set k (true, .lst (ts ++ [t]))) else none
  | _ => none
 | _ => none
noncomputable def lsts (x : SV) (μ : Store) : Option Unit := match x with
 | .cel k => match μ[k]? with
  | some (_, .lst _) => some ()
  | _ => none
 | _ => none
theorem lsts_at {μ : Store} {k : Nat} {b : Bool} {ts : List T} (h : μ[k]? = some (b, .lst ts)) : lsts (.cel k) μ = some () := by unfold lsts; simp only [h]
noncomputable def sAppend (o d : D) : DS := fun e μ => (o e μ).toS e fun x μ0 => (R.lift (lsts x μ0) μ0).toS e fun _ μ0 => (d e μ0).toS e fun y μ1 => (frz y μ1).toS e fun t μ2 => (R.lift (appendAt x t μ2) μ2).toS e fun μ3 _ => .nx e μ3
@[simp] theorem sAppend_is (o d : D) (e : Slots) (μ : Store) : sAppend o d e μ = (o e μ).toS e fun x μ0 => (R.lift (lsts x μ0) μ0).toS e fun _ μ0 => (d e μ0).toS e fun y μ1 => (frz y μ1).toS e fun t μ2 => (R.lift (appendAt x t μ2) μ2).toS e fun μ3 _ => .nx e μ3 := (rfl)
noncomputable def setAt (x : SV) (k : T) (t : T) (μ : Store) : Option Store := match x, k with
 | .cel c, .int i => match μ[c]? with
  | some (true, .lst ts) => (ixN ts.length i).map fun j => μ.set c (true, .lst (ts.set j t))
  | _ => none
 | _, _ => none
noncomputable def sSetItem (i : Nat) (dk dv : D) : DS := fun e μ => (dv e μ).toS e fun y μ1 => (R.lift (slot e i) μ1).toS e fun x μ1 => (dk e μ1).toS e fun z μ2 => (R.lift (rd μ2 z) μ2).toS e fun k μ2 =>
 (frz y μ2).toS e fun t μ3 => (R.lift (setAt x k t μ3) μ3).toS e fun μ4 _ => .nx e μ4
@[simp] theorem sSetItem_is (i : Nat) (dk dv : D) (e : Slots) (μ : Store) : sSetItem i dk dv e μ = (dv e μ).toS e fun y μ1 => (R.lift (slot e i) μ1).toS e fun x μ1 => (dk e μ1).toS e fun z μ2 => (R.lift (rd μ2 z) μ2).toS e fun k μ2 =>
 (frz y μ2).toS e fun t μ3 => (R.lift (setAt x k t μ3) μ3).toS e fun μ4 _ => .nx e μ4 := (rfl)
structure Wk where
 items : List T
 same : Store → Prop
noncomputable abbrev DI := Slots → Store → R Wk
noncomputable def seqItems : T → Option (List T)
 | .lst ts => some ts
 | .tup ts => some ts
 | _ => none
@[simp] theorem seqItems_lst (ts : List T) : seqItems (.lst ts) = some ts := (rfl)
@[simp] theorem seqItems_tup (ts : List T) : seqItems (.tup ts) = some ts := (rfl)
noncomputable def iSeq (d : D) : DI := fun e μ => (d e μ).bind fun x μ1 => (R.lift ((rd μ1 x).bind seqItems) μ1).bind fun ts μ1 => .ok ⟨ts, fun μ' => rd μ' x = rd μ1 x⟩ μ1
@[simp] theorem iSeq_is (d : D) (e : Slots) (μ : Store) : iSeq d e μ = (d e μ).bind fun x μ1 => (R.lift ((rd μ1 x).bind seqItems) μ1).bind fun ts μ1 => .ok ⟨ts, fun μ' => rd μ' x = rd μ1 x⟩ μ1 := (rfl)
noncomputable def intsT (lo : Int) : Nat → List T
 | 0 => []
 | n + 1 => .int lo :: intsT (lo + 1) n
noncomputable def rngOk (j : Int) : Bool := decide (-(2 ^ 62) ≤ j) && decide (j < 2 ^ 62)
@[simp] theorem rngOk_of {j : Int} (h0 : 0 ≤ j) (h1 : j ≤ 1000000) : rngOk j = true := by
 unfold rngOk
 rw [decide_eq_true (by lia), decide_eq_true (by lia)]; rfl
theorem rngOk_iff {j : Int} (h : rngOk j = true) : -(2 ^ 62) ≤ j ∧ j < 2 ^ 62 := by
 unfold rngOk at h
 simp only [Bool.and_eq_true, decide_eq_true_eq] at h
 exact h
noncomputable def iRange1 (d : D) : DI := fun e μ => (d e μ).bind fun x μ1 => (R.lift ((rd μ1 x).bind asInt) μ1).bind fun j μ1 => if rngOk j = true then .ok ⟨intsT 0 j.toNat, fun _ => True⟩ μ1 else .bad
noncomputable def iRange2 (d d' : D) : DI := fun e μ => (d e μ).bind fun x μ1 => (d' e μ1).bind fun y μ2 => (R.lift ((rd μ2 x).bind asInt) μ2).bind fun i μ2 => (R.lift ((rd μ2 y).bind asInt) μ2).bind fun j μ2 =>
 if (rngOk i && rngOk j) = true then .ok ⟨intsT i (j - i).toNat, fun _ => True⟩ μ2 else .bad
@[simp] theorem iRange1_is (d : D) (e : Slots) (μ : Store) : iRange1 d e μ = (d e μ).bind fun x μ1 => (R.lift ((rd μ1 x).bind asInt) μ1).bind fun j μ1 => if rngOk j = true then .ok ⟨intsT 0 j.toNat, fun _ => True⟩ μ1 else .bad := (rfl)
@[simp] theorem iRange2_is (d d' : D) (e : Slots) (μ : Store) : iRange2 d d' e μ = (d e μ).bind fun x μ1 => (d' e μ1).bind fun y μ2 => (R.lift ((rd μ2 x).bind asInt) μ2).bind fun i μ2 => (R.lift ((rd μ2 y).bind asInt) μ2).bind fun j μ2 =>
 if (rngOk i && rngOk j) = true then .ok ⟨intsT i (j - i).toNat, fun _ => True⟩ μ2 else .bad := (rfl)
noncomputable def zipT : List T → List T → List T
 | t :: ts, u :: us => .tup [t, u] :: zipT ts us
 | _, _ => []
noncomputable def iZip (d d' : D) : DI := fun e μ => (d e μ).bind fun x μ1 => (d' e μ1).bind fun y μ2 => (R.lift ((rd μ2 x).bind seqItems) μ2).bind fun ts μ2 => (R.lift ((rd μ2 y).bind seqItems) μ2).bind fun us μ2 =>
 .ok ⟨zipT ts us, fun μ' => rd μ' x = rd μ2 x ∧ rd μ' y = rd μ2 y⟩ μ2
@[simp] theorem iZip_is (d d' : D) (e : Slots) (μ : Store) : iZip d d' e μ = (d e μ).bind fun x μ1 => (d' e μ1).bind fun y μ2 => (R.lift ((rd μ2 x).bind seqItems) μ2).bind fun ts μ2 => (R.lift ((rd μ2 y).bind seqItems) μ2).bind fun us μ2 =>
 .ok ⟨zipT ts us, fun μ' => rd μ' x = rd μ2 x ∧ rd μ' y = rd μ2 y⟩ μ2 := (rfl)
noncomputable abbrev BD := T → Slots → Option Slots
noncomputable def bName (i : Nat) : BD := fun t e => some (e.set i (some (.val t)))
noncomputable def bTup (is : List Nat) : BD := fun t e => match t with
 | .tup ts => if ts.length = is.length then some ((is.zip ts).foldl (fun e p => e.set p.1 (some (.val p.2))) e) else none
 | _ => none
@[simp] theorem bName_is (i : Nat) (t : T) (e : Slots) : bName i t e = some (e.set i (some (.val t))) := (rfl)
@[simp] theorem bTup_pair (i j : Nat) (t u : T) (e : Slots) : bTup [i, j] (.tup [t, u]) e = some ((e.set i (some (.val t))).set j (some (.val u))) := (rfl)
open Classical in
noncomputable def forL (same : Store → Prop) (b : BD) (body : DS) : List T → Slots → Store → RS
 | [], e, μ => if same μ then .nx e μ else .bad
 | t :: ts, e, μ => if same μ then
   match b t e with
   | none => .bad
   | some e1 => match body e1 μ with
    | .nx e2 μ2 => forL same b body ts e2 μ2
    | .ct e2 μ2 => forL same b body ts e2 μ2
    | .bk e2 μ2 => .nx e2 μ2
    | r => r
  else .bad
noncomputable def sFor (it : DI) (b : BD) (body : DS) : DS := fun e μ => (it e μ).toS e fun W μ1 => forL W.same b body W.items e μ1
@[simp] theorem sFor_is (it : DI) (b : BD) (body : DS) (e : Slots) (μ : Store) : sFor it b body e μ = (it e μ).toS e fun W μ1 => forL W.same b body W.items e μ1 := (rfl)
noncomputable def whileN (c : D) (body : DS) : Nat → Slots → Store → RS
 | 0, _, _ => .bad
 | n + 1, e, μ => (c e μ).toS e fun x μ1 => (R.lift (asB x) μ1).toS e fun k μ1 => if k = true then
   match body e μ1 with
   | .nx e2 μ2 => whileN c body n e2 μ2
   | .ct e2 μ2 => whileN c body n e2 μ2
   | .bk e2 μ2 => .nx e2 μ2
   | r => r
  else .nx e μ1
open Classical in
noncomputable def sWhile (c : D) (body : DS) : DS := fun e μ => if h : ∃ n, whileN c body n e μ ≠ .bad then whileN c body h.choose e μ else .bad
open Classical in
noncomputable def compL (same : Store → Prop) (b : BD) (c : D) (d : D) (e : Slots) : List T → Store → R (List T)
 | [], μ => if same μ then .ok [] μ else .bad
 | t :: ts, μ => if same μ then
   match b t e with
   | none => .bad
   | some e1 => (c e1 μ).calm.bind fun x μ1 => (R.lift (asB x) μ1).bind fun k μ1 =>
    if k = true then (d e1 μ1).calm.bind fun y μ2 => (frz y μ2).bind fun u μ3 => (compL same b c d e ts μ3).bind fun us μ4 => .ok (u :: us) μ4
    else compL same b c d e ts μ1
  else .bad
noncomputable def ini (mp : List (Option Nat)) (e : Slots) : Slots := mp.map fun o => o.bind fun j => slot e j
noncomputable def dComp (it : DI) (mp : List (Option Nat)) (b : BD) (c : D) (d : D) : D := fun e μ => (it e μ).bind fun W μ1 => (compL W.same b c d (ini mp e) W.items μ1).calm.bind fun us μ2 =>
 if W.items.length ≤ szL then .ok (.val (.lst us)) μ2 else .bad
@[simp] theorem dComp_is (it : DI) (mp : List (Option Nat)) (b : BD) (c : D) (d : D) (e : Slots) (μ : Store) : dComp it mp b c d e μ = (it e μ).bind fun W μ1 => (compL W.same b c d (ini mp e) W.items μ1).calm.bind fun us μ2 =>
 if W.items.length ≤ szL then .ok (.val (.lst us)) μ2 else .bad := (rfl)
@[simp] theorem ini_nil (e : Slots) : ini [] e = [] := (rfl)
@[simp] theorem ini_none (mp : List (Option Nat)) (e : Slots) : ini (none :: mp) e = none :: ini mp e := (rfl)
@[simp] theorem ini_some (j : Nat) (mp : List (Option Nat)) (e : Slots) : ini (some j :: mp) e = slot e j :: ini mp e := (rfl)
noncomputable def gc (n : Nat) (x : SV) (μ : Store) : R SV := match x with
 | .val t => .ok (.val t) (μ.take n)
 | .cel k => if k < n then .ok (.cel k) (μ.take n) else match μ[k]? with
  | some c => .ok (.cel n) (μ.take n ++ [c])
  | none => .bad
 | .box _ => .bad
noncomputable def starts (m : Nat) (xs : List SV) : Slots := xs.map some ++ List.replicate (m - xs.length) none
noncomputable def RS.endD (n : Nat) : RS → R SV
 | .rt x μ' => gc n x μ'
 | .nx _ μ' => gc n (.val .non) μ'
 | .err c _ μ' => .err c (μ'.take n)
 | _ => .bad
noncomputable def fnD (m : Nat) (body : DS) : FN := fun xs μ => (body (starts m xs) μ).endD μ.length
noncomputable def ice (n : Nat) (x : SV) (μ : Store) : R SV := (frz x μ).bind fun t μ1 => .ok (.val t) (μ1.take n)
noncomputable def RS.endV (n : Nat) : RS → R SV
 | .rt x μ' => ice n x μ'
 | .nx _ μ' => ice n (.val .non) μ'
 | .err c _ μ' => .err c (μ'.take n)
 | _ => .bad
noncomputable def fnV (m : Nat) (body : DS) : FN := fun xs μ => (body (starts m xs) μ).endV μ.length
noncomputable def RS.endK : RS → R SV
 | .rt x μ' => .ok x μ'
 | .nx _ μ' => .ok (.val .non) μ'
 | .err c _ μ' => .err c μ'
 | _ => .bad
noncomputable def fnK (m : Nat) (body : DS) : FN := fun xs μ => (body (starts m xs) μ).endK
@[simp] theorem endV_rt (n : Nat) (x : SV) (μ : Store) : (RS.rt x μ).endV n = ice n x μ := (rfl)
@[simp] theorem endD_rt (n : Nat) (x : SV) (μ : Store) : (RS.rt x μ).endD n = gc n x μ := (rfl)
@[simp] theorem endK_rt (x : SV) (μ : Store) : (RS.rt x μ).endK = .ok x μ := (rfl)
@[simp] theorem fnV_is (m : Nat) (body : DS) (xs : List SV) (μ : Store) : fnV m body xs μ = (body (starts m xs) μ).endV μ.length := (rfl)
@[simp] theorem fnD_is (m : Nat) (body : DS) (xs : List SV) (μ : Store) : fnD m body xs μ = (body (starts m xs) μ).endD μ.length := (rfl)
@[simp] theorem fnK_is (m : Nat) (body : DS) (xs : List SV) (μ : Store) : fnK m body xs μ = (body (starts m xs) μ).endK := (rfl)
end Fw
namespace Fw
open PySem L2
noncomputable def ExcAt (K : PySem.W.Frag) (a : Addr) (c : Str) (t : Option Str) (h : Heap) : Prop := ∃ C, PySem.W.nsIn K mainGlobals c = some (some (.ref C)) ∧ ExcCls a C h
section
variable (K : PySem.W.Frag) (F : Hp)
mutual
noncomputable def Rep : T → V → Prop
 | .non, v => v = .non
 | .bl b, v => v = .bl b
 | .int i, v => v = .int i
 | .str x, v => v = .str x
 | .lst ts, v => ∃ a vs, v = .ref a ∧ SqL K F a vs ∧ RepL ts vs
 | .tup ts, v => ∃ a vs, v = .ref a ∧ SqT K F a vs ∧ RepL ts vs
 | .dct kts, v => ∃ a kvs, v = .ref a ∧ F a = some (.dK kvs) ∧ RepD kts kvs
 | .exc c t, v => ∃ a, v = .ref a ∧ F a = some (.ext (ExcAt K a c t))
noncomputable def RepL : List T → List V → Prop
 | [], vs => vs = []
 | t :: ts, vs => ∃ v vs', vs = v :: vs' ∧ Rep t v ∧ RepL ts vs'
noncomputable def RepD : List (Key × T) → List (Key × V) → Prop
 | [], kvs => kvs = []
 | (k, t) :: kts, kvs => ∃ v kvs', kvs = (k, v) :: kvs' ∧ Rep t v ∧ RepD kts kvs'
end
end
theorem Same.seqT {K : PySem.W.Frag} {H H' : Hp} {a : Addr} {xs : List V} (e : Same H H') (h : SqT K H a xs) : SqT K H' a xs := by
 rcases h with (h | ⟨o, h⟩) | h
 ·exact .inl (.inl (e _ _ h))
 ·exact .inl (.inr ⟨o, e _ _ h⟩)
 ·exact .inr h
section
variable {K : PySem.W.Frag} {F F' H H' : Hp}
mutual
theorem Rep.mono (s : Same F F') : ∀ (t : T) (v : V), Rep K F t v → Rep K F' t v
 | .non, v, h => by rw [Rep] at h ⊢; exact h
 | .bl b, v, h => by rw [Rep] at h ⊢; exact h
 | .int i, v, h => by rw [Rep] at h ⊢; exact h
 | .str x, v, h => by rw [Rep] at h ⊢; exact h
 | .lst ts, v, h => by
  rw [Rep] at h ⊢
  obtain ⟨a, vs, e, q, r⟩ := h
  exact ⟨a, vs, e, s.seq q, RepL.mono s ts vs r⟩
 | .tup ts, v, h => by
  rw [Rep] at h ⊢
  obtain ⟨a, vs, e, q, r⟩ := h
  exact ⟨a, vs, e, Same.seqT s q, RepL.mono s ts vs r⟩
 | .dct kts, v, h => by
  rw [Rep] at h ⊢
  obtain ⟨a, vs, e, q, r⟩ := h
  exact ⟨a, vs, e, s _ _ q, RepD.mono s kts vs r⟩
 | .exc c t, v, h => by
  rw [Rep] at h ⊢
  obtain ⟨a, e, q⟩ := h
  exact ⟨a, e, s _ _ q⟩
theorem RepL.mono (s : Same F F') : ∀ (ts : List T) (vs : List V), RepL K F ts vs → RepL K F' ts vs
 | [], vs, h => by rw [RepL] at h ⊢; exact h
 | t :: ts, vs, h => by
  rw [RepL] at h ⊢
  obtain ⟨v, vs', e, q, r⟩ := h
  exact ⟨v, vs', e, Rep.mono s t v q, RepL.mono s ts vs' r⟩
theorem RepD.mono (s : Same F F') : ∀ (kts : List (Key × T)) (kvs : List (Key × V)), RepD K F kts kvs → RepD K F' kts kvs
 | [], vs, h => by rw [RepD] at h ⊢; exact h
 | (k, t) :: ts, vs, h => by
  rw [RepD] at h ⊢
  obtain ⟨v, vs', e, q, r⟩ := h
  exact ⟨v, vs', e, Rep.mono s t v q, RepD.mono s ts vs' r⟩
end
theorem Rep.of_int {i : Int} {v : V} (h : Rep K F (.int i) v) : v = .int i := by rw [Rep] at h; exact h
theorem Rep.of_bl {i : Bool} {v : V} (h : Rep K F (.bl i) v) : v = .bl i := by rw [Rep] at h; exact h
theorem Rep.of_str {i : Str} {v : V} (h : Rep K F (.str i) v) : v = .str i := by rw [Rep] at h; exact h
theorem Rep.of_non {v : V} (h : Rep K F .non v) : v = .non := by rw [Rep] at h; exact h
theorem Rep.int' (i : Int) : Rep K F (.int i) (.int i) := by rw [Rep]
theorem Rep.bl' (i : Bool) : Rep K F (.bl i) (.bl i) := by rw [Rep]
theorem Rep.str' (i : Str) : Rep K F (.str i) (.str i) := by rw [Rep]
theorem Rep.non' : Rep K F .non .non := by rw [Rep]
theorem RepL.length : ∀ {ts : List T} {vs : List V}, RepL K F ts vs → ts.length = vs.length
 | [], vs, h => by rw [RepL] at h; subst h; rfl
 | t :: ts, vs, h => by
  rw [RepL] at h
  obtain ⟨v, vs', rfl, _, r⟩ := h
  rw [List.length_cons, List.length_cons, RepL.length r]
theorem RepL.get : ∀ {ts : List T} {vs : List V} {i : Nat} {t : T}, RepL K F ts vs → ts[i]? = some t → ∃ v, vs[i]? = some v ∧ Rep K F t v
 | [], _, _, _, _, e => by simp at e
 | t :: ts, vs, 0, t', h, e => by
  rw [RepL] at h
  obtain ⟨v, vs', rfl, q, _⟩ := h
  simp at e; subst e
  exact ⟨v, rfl, q⟩
 | t :: ts, vs, i + 1, t', h, e => by
  rw [RepL] at h
  obtain ⟨v, vs', rfl, q, r⟩ := h
  obtain ⟨v', h1, h2⟩ := RepL.get (i := i) r (by simpa using e)
  exact ⟨v', by simpa using h1, h2⟩
theorem RepL.append : ∀ {ts us : List T} {vs ws : List V}, RepL K F ts vs → RepL K F us ws → RepL K F (ts ++ us) (vs ++ ws)
 | [], us, vs, ws, h, g => by rw [RepL] at h; subst h; exact g
 | t :: ts, us, vs, ws, h, g => by
  rw [RepL] at h
  obtain ⟨v, vs', rfl, q, r⟩ := h
  rw [List.cons_append, List.cons_append, RepL]
  exact ⟨v, vs' ++ ws, rfl, q, r.append g⟩
theorem RepL.nil' : RepL K F [] [] := by rw [RepL]
theorem RepL.cons' {t : T} {v : V} {ts : List T} {vs : List V} (q : Rep K F t v) (r : RepL K F ts vs) : RepL K F (t :: ts) (v :: vs) := by rw [RepL]; exact ⟨v, vs, rfl, q, r⟩
theorem RepL.one {t : T} {v : V} (q : Rep K F t v) : RepL K F [t] [v] := .cons' q .nil'
theorem RepL.set : ∀ {ts : List T} {vs : List V} (i : Nat) {t : T} {v : V}, RepL K F ts vs → Rep K F t v → RepL K F (ts.set i t) (vs.set i v)
 | [], vs, i, _, _, h, _ => by rw [RepL] at h; subst h; simpa using RepL.nil'
 | t :: ts, vs, 0, t', v', h, g => by
  rw [RepL] at h
  obtain ⟨v, vs', rfl, q, r⟩ := h
  exact .cons' g r
 | t :: ts, vs, i + 1, t', v', h, g => by
  rw [RepL] at h
  obtain ⟨v, vs', rfl, q, r⟩ := h
  exact .cons' q (r.set i g)
theorem RepL.flat {ts : List T} {vs : List V} (h : RepL K F ts vs) : ∀ k : Nat, RepL K F (List.replicate k ts).flatten (List.replicate k vs).flatten
 | 0 => by simpa using RepL.nil'
 | k + 1 => by
  rw [List.replicate_succ, List.replicate_succ, List.flatten_cons, List.flatten_cons]
  exact h.append (h.flat k)
theorem RepL.of_ints : ∀ (ns : List Int), RepL K F (ns.map T.int) (ns.map V.int)
 | [] => .nil'
 | n :: ns => .cons' (Rep.int' n) (RepL.of_ints ns)
noncomputable def Now (K : PySem.W.Frag) (F H : Hp) (v : V) : T → Prop
 | .lst ts => ∃ a vs, v = .ref a ∧ SqL K H a vs ∧ RepL K F ts vs
 | .tup ts => ∃ a vs, v = .ref a ∧ SqT K F a vs ∧ RepL K F ts vs
 | .dct kts => ∃ a kvs, v = .ref a ∧ H a = some (.dK kvs) ∧ RepD K F kts kvs
 | t => Rep K F t v
theorem Now.of_rep (s : Same F H) {t : T} {v : V} (h : Rep K F t v) : Now K F H v t := by
 cases t with
 | lst ts => rw [Rep] at h; obtain ⟨a, vs, e, q, r⟩ := h; exact ⟨a, vs, e, s.seq q, r⟩
 | tup ts => rw [Rep] at h; obtain ⟨a, vs, e, q, r⟩ := h; exact ⟨a, vs, e, q, r⟩
 | dct ts => rw [Rep] at h; obtain ⟨a, vs, e, q, r⟩ := h; exact ⟨a, vs, e, s _ _ q, r⟩
 | _ => exact h
theorem Now.int {i : Int} {v : V} (h : Now K F H v (.int i)) : v = .int i := Rep.of_int (K := K) (F := F) h
theorem Now.bl {i : Bool} {v : V} (h : Now K F H v (.bl i)) : v = .bl i := Rep.of_bl (K := K) (F := F) h
theorem Now.str {i : Str} {v : V} (h : Now K F H v (.str i)) : v = .str i := Rep.of_str (K := K) (F := F) h
end
noncomputable def PtOk (K : PySem.W.Frag) (F : Hp) (α : List Addr) (v : V) : Sum T Nat → Prop
 | .inl t => Rep K F t v
 | .inr k => ∃ a, α[k]? = some a ∧ v = .ref a
noncomputable def SvOk (K : PySem.W.Frag) (F : Hp) (α : List Addr) (v : V) : SV → Prop
 | .val t => Rep K F t v
 | .cel k => ∃ a, α[k]? = some a ∧ v = .ref a
 | .box xs => ∃ a vs, v = .ref a ∧ SqT K F a vs ∧ Paired (PtOk K F α) vs xs
noncomputable def CellOk (K : PySem.W.Frag) (F H : Hp) (a : Addr) : T → Prop
 | .lst ts => ∃ vs, H a = some (.lst vs) ∧ RepL K F ts vs
 | .dct kts => ∃ kvs, H a = some (.dK kvs) ∧ RepD K F kts kvs
 | _ => False
noncomputable def NF (o : HO) : Prop := ∀ ob u, o ≠ .frz ob u
noncomputable def One (H : Hp) : Prop := ∀ b c ob u ob2 u2, H b = some (.frz ob u) → H c = some (.frz ob2 u2) → b = c
theorem One.upd {H : Hp} {p : Addr} {o : HO} (h : One H) (n : NF o) : One (upd H p o) := fun b c ob u ob2 u2 h1 h2 => by
 by_cases e1 : b = p
 ·subst e1; rw [upd_same] at h1; cases h1; exact absurd rfl (n _ _)
 ·by_cases e2 : c = p
  ·subst e2; rw [upd_same] at h2; cases h2; exact absurd rfl (n _ _)
  ·rw [upd_ne e1] at h1; rw [upd_ne e2] at h2; exact h _ _ _ _ _ _ h1 h2
theorem CellOk.nf {K : PySem.W.Frag} {F H : Hp} {a : Addr} {t : T} {o : HO} (c : CellOk K F (upd H a o) a t) : NF o := fun ob u e => by
 subst e
 cases t with
 | lst ts => obtain ⟨vs, h1, _⟩ := c; rw [upd_same] at h1; cases h1
 | dct ts => obtain ⟨vs, h1, _⟩ := c; rw [upd_same] at h1; cases h1
 | _ => exact c.elim
structure StOk (K : PySem.W.Frag) (F : Hp) (α : List Addr) (μ : Store) (H : Hp) : Prop where
 ext : Same F H
 len : α.length = μ.length
 nd : α.Nodup
 there : ∀ (k : Nat) (a : Addr), α[k]? = some a → ∃ o, H a = some o
 cell : ∀ (k : Nat) (b : Bool) (t : T) (a : Addr), μ[k]? = some (b, t) → α[k]? = some a → (b = true → F a = none ∧ CellOk K F H a t) ∧ (b = false → Rep K F t (.ref a))
 one : One H
structure Sim (K : PySem.W.Frag) (F : Hp) (α : List Addr) (e : Slots) (μ : Store) (σ : St) (H : Hp) : Prop where
 st : StOk K F α μ H
 sl : ∀ i x, slot e i = some x → ∃ v, σ[i]? = some (some v) ∧ SvOk K F α v x
 len : e.length = σ.length
section
variable {K : PySem.W.Frag} {F F' F2 H H' : Hp} {α α' : List Addr} {e : Slots} {μ : Store} {σ : St} {v : V} {x : SV} {t : T}
theorem pre_get {k : Nat} {a : Addr} (p : α <+: α') (h : α[k]? = some a) : α'[k]? = some a := by
 obtain ⟨l, rfl⟩ := p
 have hk : k < α.length := (List.getElem?_eq_some_iff.mp h).1
 rw [List.getElem?_append_left hk]; exact h
theorem PtOk.mono {y : Sum T Nat} (s : Same F F') (p : α <+: α') (h : PtOk K F α v y) : PtOk K F' α' v y := by
 cases y with
 | inl t => exact Rep.mono s t v h
 | inr k => obtain ⟨a, h1, h2⟩ := h; exact ⟨a, pre_get p h1, h2⟩
theorem SvOk.mono (s : Same F F') (p : α <+: α') (h : SvOk K F α v x) : SvOk K F' α' v x := by
 cases x with
 | val t => exact Rep.mono s t v h
 | cel k => obtain ⟨a, h1, h2⟩ := h; exact ⟨a, pre_get p h1, h2⟩
 | box xs => obtain ⟨a, vs, e, q, r⟩ := h; exact ⟨a, vs, e, Same.seqT s q, Paired.imp' (fun _ _ z => PtOk.mono s p z) r⟩
theorem StOk.addr (S : StOk K F α μ H) {k : Nat} {c : Bool × T} (h : μ[k]? = some c) : ∃ a, α[k]? = some a := by
 have hk : k < μ.length := (List.getElem?_eq_some_iff.mp h).1
 exact ⟨α[k]'(by rw [S.len]; exact hk), by simp⟩
theorem now_of (S : StOk K F α μ H) (h : SvOk K F α v x) (r : rd μ x = some t) : Now K F H v t := by
 cases x with
 | val u => cases r; exact Now.of_rep S.ext h
 | cel k =>
  obtain ⟨a, h1, rfl⟩ := h
  cases q : μ[k]? with
  | none => simp [rd, q] at r
  | some c =>
   obtain ⟨b, u⟩ := c
   simp only [rd, q, Option.map_some] at r
   cases r
   obtain ⟨c1, c2⟩ := S.cell k b t a q h1
   cases b with
   | false => exact Now.of_rep S.ext (c2 rfl)
   | true =>
    obtain ⟨_, c⟩ := c1 rfl
    cases t with
    | lst ts => obtain ⟨vs, g1, g2⟩ := c; exact ⟨a, vs, rfl, SqL.of g1, g2⟩
    | dct ts => obtain ⟨vs, g1, g2⟩ := c; exact ⟨a, vs, rfl, g1, g2⟩
    | _ => exact c.elim
 | box xs => cases r
noncomputable def Grow (F H F' H' : Hp) : Prop := ∀ b, (F' b = F b ∧ H' b = H b) ∨ (H b = none ∧ F' b = H' b ∧ ∀ o, H' b = some o → NF o)
theorem Grow.refl : Grow F H F H := fun _ => .inl ⟨rfl, rfl⟩
theorem Grow.new {p : Addr} {o : HO} (h : H p = none) (n : NF o := by intro _ _ h; cases h) : Grow F H (upd F p o) (upd H p o) := fun b => by
 by_cases e : b = p
 ·subst e; exact .inr ⟨h, by rw [upd_same, upd_same], fun z hz => by rw [upd_same] at hz; cases hz; exact n⟩
 ·exact .inl ⟨upd_ne e, upd_ne e⟩
theorem Grow.same (g : Grow F H F' H') (s : Same F H) : Same F F' := fun b o h => by
 rcases g b with ⟨e1, e2⟩ | ⟨e1, e2⟩
 ·rw [e1]; exact h
 ·rw [s b o h] at e1; cases e1
theorem Grow.ext (g : Grow F H F' H') (s : Same F H) : Same F' H' := fun b o h => by
 rcases g b with ⟨e1, e2⟩ | ⟨e1, e2⟩
 ·rw [e2]; rw [e1] at h; exact s b o h
 ·rw [← e2.1]; exact h
theorem CellOk.grow (g : Grow F H F' H') (s : Same F H) {a : Addr} (h : CellOk K F H a t) : CellOk K F' H' a t := by
 have keep : ∀ {o : HO}, H a = some o → H' a = some o := fun {o} h => by
  rcases g a with ⟨e1, e2⟩ | ⟨e1, e2⟩
  ·rw [e2]; exact h
  ·rw [h] at e1; cases e1
 cases t with
 | lst ts => obtain ⟨vs, h1, h2⟩ := h; exact ⟨vs, keep h1, RepL.mono (g.same s) _ _ h2⟩
 | dct ts => obtain ⟨vs, h1, h2⟩ := h; exact ⟨vs, keep h1, RepD.mono (g.same s) _ _ h2⟩
 | _ => exact h.elim
theorem CellOk.there {a : Addr} (h : CellOk K F H a t) : ∃ o, H a = some o := by
 cases t with
 | lst ts => obtain ⟨vs, h1, h2⟩ := h; exact ⟨_, h1⟩
 | dct ts => obtain ⟨vs, h1, h2⟩ := h; exact ⟨_, h1⟩
 | _ => exact h.elim
theorem StOk.grow (S : StOk K F α μ H) (g : Grow F H F' H') : StOk K F' α μ H' where
 ext := g.ext S.ext
 len := S.len
 nd := S.nd
 there := fun k a h => by
  obtain ⟨o, ho⟩ := S.there k a h
  rcases g a with ⟨e1, e2⟩ | ⟨e1, e2⟩
  ·exact ⟨o, by rw [e2]; exact ho⟩
  ·rw [ho] at e1; cases e1
 cell := fun k b t a h1 h2 => by
  obtain ⟨c1, c2⟩ := S.cell k b t a h1 h2
  refine ⟨fun hb => ?_, fun hb => Rep.mono (g.same S.ext) _ _ (c2 hb)⟩
  obtain ⟨d1, d2⟩ := c1 hb
  refine ⟨?_, d2.grow g S.ext⟩
  obtain ⟨o, ho⟩ := d2.there
  rcases g a with ⟨e1, e2⟩ | ⟨e1, e2⟩
  ·rw [e1]; exact d1
  ·rw [ho] at e1; cases e1
 one := fun b c ob u ob2 u2 h1 h2 => by
  rcases g b with ⟨e1, e2⟩ | ⟨e1, e2, e3⟩
  ·rcases g c with ⟨d1, d2⟩ | ⟨d1, d2, d3⟩
   ·rw [e2] at h1; rw [d2] at h2; exact S.one _ _ _ _ _ _ h1 h2
   ·exact absurd rfl (d3 _ h2 _ _)
  ·exact absurd rfl (e3 _ h1 _ _)
theorem Sim.grow (S : Sim K F α e μ σ H) (g : Grow F H F' H') : Sim K F' α e μ σ H' where
 st := S.st.grow g
 sl := fun i x h => by
  obtain ⟨v, h1, h2⟩ := S.sl i x h
  exact ⟨v, h1, h2.mono (g.same S.st.ext) (List.prefix_refl _)⟩
 len := S.len
theorem Sim.of (S : Sim K F α e μ σ H) {μ' : Store} (s : Same F F') (p : α <+: α') (S' : StOk K F' α' μ' H') : Sim K F' α' e μ' σ H' :=
 ⟨S', fun i x h => by
  obtain ⟨v, h1, h2⟩ := S.sl i x h
  exact ⟨v, h1, h2.mono s p⟩, S.len⟩
theorem nodup_at {k j : Nat} {a : Addr} (n : α.Nodup) (h1 : α[k]? = some a) (h2 : α[j]? = some a) : k = j := by
 obtain ⟨a1, b1⟩ := List.getElem?_eq_some_iff.mp h1
 obtain ⟨a2, b2⟩ := List.getElem?_eq_some_iff.mp h2
 exact (List.getElem_inj n).mp (b1.trans b2.symm)
theorem frz_cel {k : Nat} (S : StOk K F α μ H) (h : ∃ a, α[k]? = some a ∧ v = .ref a) {μ' : Store} (r : frz (.cel k) μ = .ok t μ') : ∃ F', Same F F' ∧ (∀ b, b ∉ α → F' b = F b) ∧ StOk K F' α μ' H ∧ Rep K F' t v := by
  obtain ⟨a, h1, rfl⟩ := h
  unfold frz at r
  cases q : μ[k]? with
  | none => simp only [q] at r; cases r
  | some c =>
   obtain ⟨b, u⟩ := c
   simp only [q] at r
   cases r
   have hk : k < μ.length := (List.getElem?_eq_some_iff.mp q).1
   obtain ⟨c1, c2⟩ := S.cell k b t a q h1
   have main : ∃ F', Same F F' ∧ Same F' H ∧ Rep K F' t (.ref a) ∧ ∀ c, c ≠ a → F' c = F c := by
    cases b with
    | false => exact ⟨F, Same.refl F, S.ext, c2 rfl, fun _ _ => rfl⟩
    | true =>
     obtain ⟨d1, d2⟩ := c1 rfl
     obtain ⟨o, ho⟩ := d2.there
     have s1 : Same F (upd F a o) := fun c z hz => by
      rw [upd_ne (fun q => by subst q; rw [d1] at hz; cases hz)]; exact hz
     refine ⟨upd F a o, s1, fun c z hz => ?_, ?_, fun c hc => upd_ne hc⟩
     ·by_cases e : c = a
      ·subst e; rw [upd_same] at hz; cases hz; exact ho
      ·rw [upd_ne e] at hz; exact S.ext c z hz
     ·cases t with
      | lst ts => obtain ⟨vs, g1, g2⟩ := d2; rw [g1] at ho; cases ho; rw [Rep]; exact ⟨a, vs, rfl, SqL.of upd_same, RepL.mono s1 _ _ g2⟩
      | dct ts => obtain ⟨vs, g1, g2⟩ := d2; rw [g1] at ho; cases ho; rw [Rep]; exact ⟨a, vs, rfl, upd_same, RepD.mono s1 _ _ g2⟩
      | _ => exact d2.elim
   obtain ⟨F', s1, s2, rp, ne⟩ := main
   refine ⟨F', s1, fun c hc => ne c fun q => hc (by rw [q]; exact List.mem_of_getElem? h1), ⟨s2, by rw [List.length_set]; exact S.len, S.nd, S.there, fun j b' u' a' g1 g2 => ?_, S.one⟩, rp⟩
   by_cases e : j = k
   ·subst e
    rw [List.getElem?_set_self hk] at g1
    cases g1
    rw [h1] at g2; cases g2
    exact ⟨fun z => (by cases z), fun _ => rp⟩
   ·rw [List.getElem?_set_ne (Ne.symm e)] at g1
    obtain ⟨z1, z2⟩ := S.cell j b' u' a' g1 g2
    have na : a' ≠ a := fun q => by subst q; exact e (nodup_at S.nd g2 h1)
    refine ⟨fun hb => ?_, fun hb => Rep.mono s1 _ _ (z2 hb)⟩
    obtain ⟨y1, y2⟩ := z1 hb
    refine ⟨by rw [ne _ na]; exact y1, ?_⟩
    cases u' with
    | lst ts => obtain ⟨vs, w1, w2⟩ := y2; exact ⟨vs, w1, RepL.mono s1 _ _ w2⟩
    | dct ts => obtain ⟨vs, w1, w2⟩ := y2; exact ⟨vs, w1, RepD.mono s1 _ _ w2⟩
    | _ => exact y2.elim
theorem frz1_eq (k : Nat) (μ : Store) : frz1 (.inr k) μ = frz (.cel k) μ := by unfold frz1 frz; rfl
theorem frz1s_ok : ∀ {xs : List (Sum T Nat)} {vs : List V} {μ μ' : Store} {F : Hp} {ts : List T}, StOk K F α μ H → Paired (PtOk K F α) vs xs → frz1s xs μ = .ok ts μ' → ∃ F', Same F F' ∧ (∀ b, b ∉ α → F' b = F b) ∧ StOk K F' α μ' H ∧ RepL K F' ts vs
 | [], vs, μ, μ', F, ts, S, p, r => by
  cases p
  cases r
  exact ⟨F, Same.refl F, fun _ _ => rfl, S, RepL.nil'⟩
 | x :: xs, vs, μ, μ', F, ts, S, p, r => by
  cases p with
  | @cons v₁ _ vs₁ _ hv p =>
   unfold frz1s at r
   obtain ⟨t, μ1, r1, r⟩ := R.bind_eq_ok r
   obtain ⟨ts', μ2, r2, r⟩ := R.bind_eq_ok r
   cases r
   have one : ∃ F', Same F F' ∧ (∀ b, b ∉ α → F' b = F b) ∧ StOk K F' α μ1 H ∧ Rep K F' t v₁ := by
    cases x with
    | inl u => cases r1; exact ⟨F, Same.refl F, fun _ _ => rfl, S, hv⟩
    | inr k => rw [frz1_eq] at r1; exact frz_cel S hv r1
   obtain ⟨F1, s1, n1, S1, q1⟩ := one
   obtain ⟨F2, s2, n2, S2, q2⟩ := frz1s_ok S1 (Paired.imp' (fun _ _ z => PtOk.mono s1 (List.prefix_refl _) z) p) r2
   exact ⟨F2, s1.trans s2, fun b hb => (n2 b hb).trans (n1 b hb), S2, .cons' (Rep.mono s2 _ _ q1) q2⟩
theorem frz_ok (S : StOk K F α μ H) (h : SvOk K F α v x) {μ' : Store} (r : frz x μ = .ok t μ') : ∃ F', Same F F' ∧ (∀ b, b ∉ α → F' b = F b) ∧ StOk K F' α μ' H ∧ Rep K F' t v := by
 cases x with
 | val u => cases r; exact ⟨F, Same.refl F, fun _ _ => rfl, S, h⟩
 | cel k => exact frz_cel S h r
 | box xs =>
  obtain ⟨a, vs, rfl, q, p⟩ := h
  unfold frz at r
  obtain ⟨ts, μ1, r1, r⟩ := R.bind_eq_ok r
  cases r
  obtain ⟨F1, s1, n1, S1, q1⟩ := frz1s_ok S p r1
  refine ⟨F1, s1, n1, S1, ?_⟩
  rw [Rep]
  exact ⟨a, vs, rfl, Same.seqT s1 q, q1⟩
theorem frzs_ok : ∀ {xs : List SV} {vs : List V} {μ μ' : Store} {F : Hp} {ts : List T}, StOk K F α μ H → Paired (fun v x => SvOk K F α v x) vs xs → frzs xs μ = .ok ts μ' → ∃ F', Same F F' ∧ (∀ b, b ∉ α → F' b = F b) ∧ StOk K F' α μ' H ∧ RepL K F' ts vs
 | [], vs, μ, μ', F, ts, S, p, r => by
  cases p
  cases r
  exact ⟨F, Same.refl F, fun _ _ => rfl, S, RepL.nil'⟩
 | x :: xs, vs, μ, μ', F, ts, S, p, r => by
  cases p with
  | cons hv p =>
   rw [frzs_cons] at r
   obtain ⟨t, μ1, r1, r⟩ := R.bind_eq_ok r
   obtain ⟨ts', μ2, r2, r⟩ := R.bind_eq_ok r
   cases r
   obtain ⟨F1, s1, n1, S1, q1⟩ := frz_ok S hv r1
   obtain ⟨F2, s2, n2, S2, q2⟩ := frzs_ok S1 (Paired.imp' (fun _ _ z => SvOk.mono s1 (List.prefix_refl _) z) p) r2
   exact ⟨F2, s1.trans s2, fun b hb => (n2 b hb).trans (n1 b hb), S2, .cons' (Rep.mono s2 _ _ q1) q2⟩
theorem put_ok (S : StOk K F α μ H) {k : Nat} {a : Addr} {t₀ : T} {o : HO} (hk : μ[k]? = some (true, t₀)) (ha : α[k]? = some a) (c : CellOk K F (upd H a o) a t) : StOk K F α (μ.set k (true, t)) (upd H a o) := by
 have hlt : k < μ.length := (List.getElem?_eq_some_iff.mp hk).1
 have hF := ((S.cell k true t₀ a hk ha).1 rfl).1
 refine ⟨fun b z hz => ?_, by rw [List.length_set]; exact S.len, S.nd, fun j b h => ?_, fun j b u a' h1 h2 => ?_, S.one.upd c.nf⟩
 ·rw [upd_ne (fun q => by subst q; rw [hF] at hz; cases hz)]; exact S.ext b z hz
 ·by_cases e : b = a
  ·subst e; exact ⟨o, upd_same⟩
  ·rw [upd_ne e]; exact S.there j b h
 ·by_cases e : j = k
  ·subst e
   rw [List.getElem?_set_self hlt] at h1
   cases h1
   rw [ha] at h2; cases h2
   exact ⟨fun _ => ⟨hF, c⟩, fun z => (by cases z)⟩
  ·rw [List.getElem?_set_ne (Ne.symm e)] at h1
   have na : a' ≠ a := fun q => by subst q; exact e (nodup_at S.nd h2 ha)
   obtain ⟨c1, c2⟩ := S.cell j b u a' h1 h2
   refine ⟨fun hb => ⟨(c1 hb).1, ?_⟩, c2⟩
   have d := (c1 hb).2
   cases u with
   | lst ts => obtain ⟨vs, w1, w2⟩ := d; exact ⟨vs, by rw [upd_ne na]; exact w1, w2⟩
   | dct ts => obtain ⟨vs, w1, w2⟩ := d; exact ⟨vs, by rw [upd_ne na]; exact w1, w2⟩
   | _ => exact d.elim
theorem StOk.take {β : List Addr} (S : StOk K F β μ H) (n : Nat) : StOk K F (β.take n) (μ.take n) H := by
 have cut : ∀ {γ : Type} {l : List γ} {k : Nat} {z : γ}, (l.take n)[k]? = some z → l[k]? = some z := fun {γ l k z} h => by
  rw [List.getElem?_take] at h
  split at h
  ·exact h
  ·cases h
 exact ⟨S.ext, by rw [List.length_take, List.length_take, S.len], S.nd.sublist (List.take_sublist _ _), fun k a h => S.there k a (cut h), fun k b t a h1 h2 => S.cell k b t a (cut h1) (cut h2), S.one⟩
theorem gc_ok {μ₀ : Store} {β : List Addr} {r : SV} {μ' : Store} (hα : α.length = μ₀.length) (p : α <+: β) (S : StOk K F β μ H) (h : SvOk K F β v x) (hg : gc μ₀.length x μ = .ok r μ') :
  ∃ γ, α <+: γ ∧ (∀ b, b ∈ γ → b ∈ β) ∧ StOk K F γ μ' H ∧ SvOk K F γ v r := by
 have hn : β.take μ₀.length = α := by
  rw [← hα]
  obtain ⟨l, rfl⟩ := p
  simp
 have hp : α <+: β.take μ₀.length := by rw [hn]; exact List.prefix_refl _
 unfold gc at hg
 cases x with
 | val t =>
  simp only at hg
  cases hg
  exact ⟨β.take μ₀.length, hp, fun b hb => List.mem_of_mem_take hb, S.take _, h⟩
 | cel k =>
  obtain ⟨a, ha, rfl⟩ := h
  simp only at hg
  by_cases hk : k < μ₀.length
  ·rw [if_pos hk] at hg
   cases hg
   exact ⟨β.take μ₀.length, hp, fun b hb => List.mem_of_mem_take hb, S.take _, a, by rw [List.getElem?_take_of_lt hk]; exact ha, rfl⟩
  ·rw [if_neg hk] at hg
   cases hc : μ[k]? with
   | none => rw [hc] at hg; cases hg
   | some c =>
    rw [hc] at hg
    cases hg
    have T := S.take μ₀.length
    have hl : (β.take μ₀.length).length = μ₀.length := by rw [hn]; exact hα
    have hl2 : (μ.take μ₀.length).length = μ₀.length := by rw [← T.len]; exact hl
    have hend : ∀ {γ : Type} {l : List γ} {z : γ} {j : Nat} {y : γ}, l.length = μ₀.length → (l ++ [z])[j]? = some y → (j < μ₀.length ∧ l[j]? = some y) ∨ (j = μ₀.length ∧ y = z) := fun {γ l z j y} e h => by
     by_cases hj : j < l.length
     ·rw [List.getElem?_append_left hj] at h; exact .inl ⟨by lia, h⟩
     ·rw [List.getElem?_append_right (by lia)] at h
      by_cases h0 : j - l.length = 0
      ·rw [h0] at h; simp at h; exact .inr ⟨by lia, h.symm⟩
      ·rw [List.getElem?_eq_none (by simp; lia)] at h; cases h
    have cut : ∀ {γ : Type} {l : List γ} {j : Nat} {z : γ}, (l.take μ₀.length)[j]? = some z → l[j]? = some z := fun {γ l j z} h => by
     rw [List.getElem?_take] at h
     split at h
     ·exact h
     ·cases h
    refine ⟨β.take μ₀.length ++ [a], hp.trans (List.prefix_append _ _), fun b hb => (List.mem_append.mp hb).elim (fun z => List.mem_of_mem_take z) fun z => by simp at z; subst z; exact List.mem_of_getElem? ha, ⟨S.ext, by rw [List.length_append, List.length_append, hl, hl2]; rfl, ?_, fun j b g => ?_, fun j b u a' g1 g2 => ?_, S.one⟩, a, ?_, rfl⟩
    ·rw [List.nodup_append]
     refine ⟨T.nd, by simp, fun b hb b' hb' => ?_⟩
     simp at hb'
     subst hb'
     intro q
     subst q
     obtain ⟨j, hj⟩ := List.mem_iff_getElem?.mp hb
     have hj' : j < μ₀.length := by rw [← hl]; exact (List.getElem?_eq_some_iff.mp hj).1
     have := nodup_at S.nd (cut hj) ha
     lia
    ·rcases hend hl g with ⟨_, g'⟩ | ⟨_, rfl⟩
     ·exact T.there j b g'
     ·exact S.there k _ ha
    ·rcases hend hl g2 with ⟨hj, g'⟩ | ⟨hj, rfl⟩
     ·rcases hend hl2 g1 with ⟨_, g1'⟩ | ⟨hj', _⟩
      ·exact T.cell j b u a' g1' g'
      ·lia
     ·rcases hend hl2 g1 with ⟨hj', _⟩ | ⟨_, e⟩
      ·lia
      ·exact S.cell k b u _ (by rw [hc, e]) ha
    ·rw [List.getElem?_append_right (by lia), hl]
     simp
 | box xs => cases hg
theorem ice_ok {μ₀ : Store} {β : List Addr} {r : SV} {μ' : Store} (hα : α.length = μ₀.length) (p : α <+: β) (S : StOk K F β μ H) (h : SvOk K F β v x) (hg : ice μ₀.length x μ = .ok r μ') :
  ∃ F', Same F F' ∧ (∀ b, b ∉ β → F' b = F b) ∧ StOk K F' α μ' H ∧ SvOk K F' α v r := by
 unfold ice at hg
 obtain ⟨t, μ1, h1, hg⟩ := R.bind_eq_ok hg
 cases hg
 obtain ⟨F1, s1, n1, S1, q1⟩ := frz_ok S h h1
 have hn : β.take μ₀.length = α := by
  rw [← hα]
  obtain ⟨l, rfl⟩ := p
  simp
 have S2 := S1.take μ₀.length
 rw [hn] at S2
 exact ⟨F1, s1, n1, S2, q1⟩
end
structure Ex (F : Hp) (α : List Addr) (H F' : Hp) (α' : List Addr) (H' : Hp) : Prop where
 same : Same F F'
 pre : α <+: α'
 fr : ∀ b o, H b = some o → F b = none → b ∉ α → H' b = some o ∧ F' b = none ∧ b ∉ α'
section
variable {K : PySem.W.Frag} {F F' F1 F2 H H' H1 H2 : Hp} {α α' α1 α2 : List Addr} {μ μ' : Store}
theorem Ex.refl : Ex F α H F α H := ⟨Same.refl F, List.prefix_refl _, fun _ _ h1 h2 h3 => ⟨h1, h2, h3⟩⟩
theorem Ex.trans (x : Ex F α H F1 α1 H1) (y : Ex F1 α1 H1 F2 α2 H2) : Ex F α H F2 α2 H2 :=
 ⟨x.same.trans y.same, x.pre.trans y.pre, fun b o h1 h2 h3 => let ⟨g1, g2, g3⟩ := x.fr b o h1 h2 h3; y.fr b o g1 g2 g3⟩
theorem Ex.of_ne (s : Same F F') (n : ∀ b, b ∉ α → F' b = F b) : Ex F α H F' α H := ⟨s, List.prefix_refl _, fun b o h1 h2 h3 => ⟨h1, by rw [n b h3]; exact h2, h3⟩⟩
theorem Grow.ex (g : Grow F H F' H') (s : Same F H) : Ex F α H F' α H' := ⟨g.same s, List.prefix_refl _, fun b o h1 h2 h3 => by
 rcases g b with ⟨e1, e2⟩ | ⟨e1, e2⟩
 ·exact ⟨by rw [e2]; exact h1, by rw [e1]; exact h2, h3⟩
 ·rw [h1] at e1; cases e1⟩
theorem Ex.was {p : Addr} (x : Ex F α H F1 α1 H1) (S : StOk K F1 α1 μ H1) (h : H1 p = none) : H p = none := by
 cases q : H p with
 | none => rfl
 | some o =>
  exfalso
  cases f : F p with
  | some z => rw [S.ext p z (x.same p z f)] at h; cases h
  | none =>
   by_cases hm : p ∈ α
   ·obtain ⟨k, hk⟩ := List.mem_iff_getElem?.mp hm
    obtain ⟨z, hz⟩ := S.there k p (pre_get x.pre hk)
    rw [hz] at h; cases h
   ·rw [(x.fr p o q f hm).1] at h; cases h
theorem Ex.lay {p : Addr} {o : HO} (h : H p = none) : Ex F α H F α (upd H p o) := ⟨Same.refl F, List.prefix_refl _, fun b z h1 h2 h3 => ⟨by rw [upd_ne (fun q => by subst q; rw [h] at h1; cases h1)]; exact h1, h2, h3⟩⟩
theorem Ex.put {k : Nat} {a : Addr} {o : HO} (ha : α[k]? = some a) : Ex F α H F α (upd H a o) := ⟨Same.refl F, List.prefix_refl _, fun b z h1 h2 h3 => ⟨by rw [upd_ne (fun q => h3 (by rw [q]; exact List.mem_of_getElem? ha))]; exact h1, h2, h3⟩⟩
theorem Ex.more {p : Addr} (x : Ex F α H F' α' H') (h : H p = none) : Ex F α H F' (α' ++ [p]) H' := ⟨x.same, x.pre.trans (List.prefix_append _ _), fun b o h1 h2 h3 => by
 obtain ⟨g1, g2, g3⟩ := x.fr b o h1 h2 h3
 refine ⟨g1, g2, fun hm => ?_⟩
 rcases List.mem_append.mp hm with z | z
 ·exact g3 z
 ·simp at z; subst z; rw [h] at h1; cases h1⟩
theorem Ex.ice {p : Addr} {o : HO} (x : Ex F α H F' α' H') (h : H p = none) (h' : F' p = none) : Ex F α H (upd F' p o) α' H' := ⟨x.same.trans fun b z hz => by
  rw [upd_ne (fun q => by subst q; rw [h'] at hz; cases hz)]; exact hz, x.pre, fun b z h1 h2 h3 => by
 obtain ⟨g1, g2, g3⟩ := x.fr b z h1 h2 h3
 exact ⟨g1, by rw [upd_ne (fun q => by subst q; rw [h] at h1; cases h1)]; exact g2, g3⟩⟩
end
end Fw
namespace Fw
open PySem L2
theorem RepD.length {K : PySem.W.Frag} {F : Hp} : ∀ {ts : List (Key × T)} {vs : List (Key × V)}, RepD K F ts vs → ts.length = vs.length
 | [], vs, h => by rw [RepD] at h; subst h; rfl
 | (k, t) :: ts, vs, h => by
  rw [RepD] at h
  obtain ⟨v, vs', rfl, _, r⟩ := h
  rw [List.length_cons, List.length_cons, RepD.length r]
end Fw
namespace Fw
open PySem L2
noncomputable def R.wp {α : Type} (r : R α) (Q : α → Store → Prop) (E : T → Store → Prop) : Prop := match r with
 | .ok a μ => Q a μ
 | .err c μ => E c μ
 | .bad => False
theorem R.wp_bind {α β : Type} {r : R α} {f : α → Store → R β} {Q : β → Store → Prop} {E : T → Store → Prop} (h : (r.bind f).wp Q E) : r.wp (fun a μ => (f a μ).wp Q E) E := by
 cases r <;> exact h
theorem R.wp.mono {α : Type} {r : R α} {Q Q' : α → Store → Prop} {E E' : T → Store → Prop} (h : r.wp Q E) (hQ : ∀ a μ, Q a μ → Q' a μ) (hE : ∀ c μ, E c μ → E' c μ) : r.wp Q' E' := by
 cases r with
 | ok a μ => exact hQ a μ h
 | err c μ => exact hE c μ h
 | bad => exact h
theorem R.wp_lift {α : Type} {o : Option α} {μ : Store} {Q : α → Store → Prop} {E : T → Store → Prop} (h : (R.lift o μ).wp Q E) : ∃ a, o = some a ∧ Q a μ := by
 cases o with
 | none => exact h.elim
 | some a => exact ⟨a, rfl, h⟩
noncomputable def Post (K : PySem.W.Frag) (F : Hp) (α : List Addr) (H : Hp) (e : Slots) (σ : St) (Q : VK) (x : SV) (μ : Store) : Prop :=
 ∀ v H' F' α', Ex F α H F' α' H' → Sim K F' α' e μ σ H' → SvOk K F' α' v x → Q v H'
noncomputable def Flies (X : Cx) (pins : List (Addr × Obj)) (σ : St) (H : Hp) (c : T) (ev : Value) (s' : Shared) : Prop :=
 ∃ n C, c = .exc n none ∧ X.mg n = some (.ref C) ∧ ((X.calm = true ∧ ∃ s h' e vs, Inv X pins σ H s ∧ Heap.MadeExcOf s.heap h' e (.ref C) vs ∧ ev = .ref e ∧ s' = { s with heap := h' }) ∨
  (∃ H0 s, Inv X pins σ H0 s ∧ CX1 X.prog X.w X.stack H0 s (fun cv _ H' => cv = .ref C ∧ H' = H) ev s') ∨ (X.calm = true ∧ ∃ e t B, ev = .ref e ∧ Hel X pins σ H e t C B s'))
noncomputable def XPost (X : Cx) (F : Hp) (α : List Addr) (H : Hp) (e : Slots) (c : T) (μ : Store) : Prop :=
 ∀ ev s', (∃ pins σ' H' F' α', Ex F α H F' α' H' ∧ Sim X.K F' α' e μ σ' H' ∧ Flies X pins σ' H' c ev s') → X.xe ev s'
theorem XPost.mono {X : Cx} {F F1 H H1 : Hp} {α α1 : List Addr} {e : Slots} {c : T} {μ : Store} (x : Ex F α H F1 α1 H1) (h : XPost X F α H e c μ) : XPost X F1 α1 H1 e c μ :=
 fun ev s' ⟨pins, σ', H', F', α', y, S, f⟩ => h ev s' ⟨pins, σ', H', F', α', x.trans y, S, f⟩
noncomputable def tD (X : Cx) (d : D) : TE := fun σ H Q => ∃ F α e μ, Sim X.K F α e μ σ H ∧ (d e μ).wp (Post X.K F α H e σ Q) (XPost X F α H e)
noncomputable def tDT (X : Cx) (d : D) : TT := fun σ H Q => ∃ F α e μ, Sim X.K F α e μ σ H ∧ (d e μ).wp (fun x μ' => ∃ b, x = .val (.bl b) ∧
 ∀ H' F' α', Ex F α H F' α' H' → Sim X.K F' α' e μ' σ H' → Q b H') (XPost X F α H e)
noncomputable def tDA (X : Cx) (ds : List D) : TA := fun σ H Q => ∃ F α e μ, Sim X.K F α e μ σ H ∧ (dArgs ds e μ).wp (fun xs μ' =>
 ∀ vs H' F' α', Ex F α H F' α' H' → Sim X.K F' α' e μ' σ H' → Paired (fun v x => SvOk X.K F' α' v x) vs xs → Q vs H') (XPost X F α H e)
noncomputable def CE (X : Cx) (e : Expr) (d : D) : Prop := PE X e (tD X d)
noncomputable def CT (X : Cx) (e : Expr) (d : D) : Prop := PT X e (tDT X d)
noncomputable def CA (X : Cx) (es : List Expr) (ds : List D) : Prop := PA X es (tDA X ds)
theorem PE.imp {X : Cx} {e : Expr} {t t' : TE} (h : PE X e t) (i : ∀ σ H Q, t' σ H Q → t σ H Q) : PE X e t' := fun pins s σ H Q I q => h pins s σ H Q I (i σ H Q q)
theorem PT.imp {X : Cx} {e : Expr} {t t' : TT} (h : PT X e t) (i : ∀ σ H Q, t' σ H Q → t σ H Q) : PT X e t' := fun pins s σ H Q I q => h pins s σ H Q I (i σ H Q q)
theorem PA.imp {X : Cx} {e : List Expr} {t t' : TA} (h : PA X e t) (i : ∀ σ H Q, t' σ H Q → t σ H Q) : PA X e t' := fun pos pins s σ H Q I q => h pos pins s σ H Q I (i σ H Q q)
theorem PS.imp {X : Cx} {e : Stmt} {t t' : TS} (h : PS X e t) (i : ∀ D σ H, t' D σ H → t D σ H) : PS X e t' := fun pins s σ H D I q => h pins s σ H D I (i D σ H q)
theorem PSs.imp {X : Cx} {e : List Stmt} {t t' : TS} (h : PSs X e t) (i : ∀ D σ H, t' D σ H → t D σ H) : PSs X e t' := fun pins s σ H D I q => h pins s σ H D I (i D σ H q)
noncomputable def OpSem (K : PySem.W.Frag) (r : R2) (f : T → T → Option T) : Prop := ∀ F H v u t t' w Q, Same F H → Now K F H v t → Now K F H u t' → f t t' = some w →
 (∀ v' H' F', Grow F H F' H' → Rep K F' w v' → Q v' H') → r v u H Q
noncomputable def UnSem (K : PySem.W.Frag) (r : V → Hp → VK → Prop) (f : T → Option T) : Prop := ∀ F H v t w Q, Same F H → Now K F H v t → f t = some w →
 (∀ v' H' F', Grow F H F' H' → Rep K F' w v' → Q v' H') → r v H Q
noncomputable def CallSem1 (K : PySem.W.Frag) (r : List V → Hp → VK → Prop) (f : T → Option T) : Prop := ∀ F H v t w Q, Same F H → Now K F H v t → f t = some w →
 (∀ v' H' F', Grow F H F' H' → Rep K F' w v' → Q v' H') → r [v] H Q
noncomputable def CallSemF (K : PySem.W.Frag) (r : List V → Hp → VK → Prop) (f : T → Option T) : Prop := ∀ F H v t w Q, Same F H → Now K F H v t → f t = some w →
 (∀ p o, H p = none → CellOk K F (upd H p o) p w → Q (.ref p) (upd H p o)) → r [v] H Q
section
variable {X : Cx} {a b c : Expr} {da db dc : D} {pos : Pos}
theorem ce_var (i : Nat) {x : Str} (hN : X.N[i]? = some x := by rfl) (hv : Vis X.env.scope x := by first | exact Or.inl rfl | exact Or.inr (Or.inl rfl) | exact Or.inr (Or.inr rfl)) (hd : (x == ("__debug__" : Str)) = false := by decide)
  (hcd : (x == ("__classdict__" : Str)) = false := by decide) : CE X (.Name x pos) (dVar i) :=
 PE.imp (pe_var hN hv hd hcd) fun σ H Q hX11_ => by
  obtain ⟨F, α, e, μ, S, h⟩ := hX11_
  obtain ⟨x, h1, h⟩ := R.wp_lift h
  obtain ⟨v, hv, ok⟩ := S.sl i x h1
  exact ⟨v, hv, h v H F α Ex.refl S ok⟩
theorem ce_const {v : V} {t : T} (h : PE X a (tC v)) (r : ∀ F, Rep X.K F t v) : CE X a (dC t) :=
 PE.imp h fun σ H Q ⟨F, α, e, μ, S, h⟩ => h v H F α Ex.refl S (r F)
theorem ce_int {i : Int} {j pos} : CE X (.Constant (.int i) j pos) (dC (.int i)) := ce_const pe_int fun _ => Rep.int' i
theorem ce_bl {i : Bool} {j pos} : CE X (.Constant (.bool i) j pos) (dC (.bl i)) := ce_const pe_bl fun _ => Rep.bl' i
theorem ce_non {j pos} : CE X (.Constant .none j pos) (dC .non) := ce_const pe_non fun _ => Rep.non'
theorem two {r : R2} {f : T → T → Option T} (hs : OpSem X.K r f) (σ : St) (H : Hp) (Q : VK) (h : tD X (dBin f da db) σ H Q) : tOp r (tD X da) (tD X db) σ H Q := by
 obtain ⟨F, α, e, μ, S, h⟩ := h
 refine ⟨F, α, e, μ, S, ?_⟩
 refine (R.wp_bind h).mono (fun x μ1 h v H1 F1 α1 x1 S1 o1 => ⟨F1, α1, e, μ1, S1, ?_⟩) fun _ _ h => h
 refine (R.wp_bind h).mono (fun y μ2 h v2 H2 F2 α2 x2 S2 o2 => ?_) fun _ _ h => h.mono x1
 obtain ⟨w, h9, post⟩ := R.wp_lift h
 obtain ⟨t, u, w', ht, hu, h, rfl⟩ := ap2_eq h9
 exact hs F2 H2 v v2 t u w' Q S2.st.ext (now_of S2.st (o1.mono x2.same x2.pre) ht) (now_of S2.st o2 hu) h fun v' H' F' g rp =>
  post v' H' F' α2 (x1.trans (x2.trans (g.ex S2.st.ext))) (S2.grow g) rp
theorem ce_bin {op : Operator} {r : R2} {f : T → T → Option T} (ho : OpR X (binaryOp op) r) (hs : OpSem X.K r f) (ha : CE X a da) (hb : CE X b db) : CE X (.BinOp a op b pos) (dBin f da db) :=
 PE.imp (pe_op ho ha hb) (two hs)
theorem ce_cmp {op : CmpOp} {r : R2} {f : T → T → Option T} (ho : OpR X (compareOp op) r) (hs : OpSem X.K r f) (hm : behindInMarks op b = false) (ha : CE X a da) (hb : CE X b db) : CE X (.Compare a [op] [b] pos) (dBin f da db) :=
 PE.imp (pe_cmpR ho ha hb hm) (two hs)
theorem one {r : V → Hp → VK → Prop} {f : T → Option T} (hs : UnSem X.K r f) (σ : St) (H : Hp) (Q : VK) (h : tD X (dUn f da) σ H Q) : tUn r (tD X da) σ H Q := by
 obtain ⟨F, α, e, μ, S, h⟩ := h
 refine ⟨F, α, e, μ, S, ?_⟩
 refine (R.wp_bind h).mono (fun x μ1 h v H1 F1 α1 x1 S1 o1 => ?_) fun _ _ h => h
 obtain ⟨w, h9, post⟩ := R.wp_lift h
 obtain ⟨t, w', ht, h, rfl⟩ := ap1_eq h9
 exact hs F1 H1 v t w' Q S1.st.ext (now_of S1.st o1 ht) h fun v' H' F' g rp =>
  post v' H' F' α1 (x1.trans (g.ex S1.st.ext)) (S1.grow g) rp
theorem ce_un {op : UnaryOp} {r : V → Hp → VK → Prop} {f : T → Option T} (ho : UnR X (unaryOp op) r) (hs : UnSem X.K r f) (ha : CE X a da) : CE X (.UnaryOp op a pos) (dUn f da) := PE.imp (pe_un ho ha) (one hs)
theorem ca_nil : CA X [] [] := PA.imp pa_nil fun σ H Q ⟨F, α, e, μ, S, h⟩ => h [] H F α Ex.refl S .nil
theorem ca_cons {es : List Expr} {ds : List D} (ha : CE X a da) (hr : CA X es ds) (hs : starEach (a :: es) X.env = (false, eval a X.env) :: starEach es X.env := by rfl) : CA X (a :: es) (da :: ds) :=
 PA.imp (pa_cons ha hr hs) fun σ H Q hX11_ => by
  obtain ⟨F, α, e, μ, S, h⟩ := hX11_
  rw [dArgs_cons] at h
  refine ⟨F, α, e, μ, S, (R.wp_bind h).mono (fun x μ1 h v H1 F1 α1 x1 S1 o1 => ⟨F1, α1, e, μ1, S1, ?_⟩) fun _ _ h => h⟩
  refine (R.wp_bind h).mono (fun xs μ2 h vs H2 F2 α2 x2 S2 o2 => ?_) fun _ _ h => h.mono x1
  exact h (v :: vs) H2 F2 α2 (x1.trans x2) S2 (.cons (o1.mono x2.same x2.pre) o2)
theorem dArgs_len : ∀ {ds : List D} {e : Slots} {μ μ' : Store} {xs : List SV}, dArgs ds e μ = .ok xs μ' → xs.length = ds.length
 | [], e, μ, μ', xs, h => by cases h; rfl
 | d :: ds, e, μ, μ', xs, h => by
  rw [dArgs_cons] at h
  obtain ⟨x, μ1, hx, h⟩ := R.bind_eq_ok h
  obtain ⟨ys, μ2, hy, h⟩ := R.bind_eq_ok h
  cases h
  rw [List.length_cons, List.length_cons, dArgs_len hy]
theorem dArgs_wp_len {ds : List D} {e : Slots} {μ : Store} {Q : List SV → Store → Prop} {E : T → Store → Prop} (h : (dArgs ds e μ).wp Q E) : (dArgs ds e μ).wp (fun xs μ' => xs.length = ds.length ∧ Q xs μ') E := by
 cases q : dArgs ds e μ with
 | ok xs μ' => rw [q] at h; exact ⟨dArgs_len q, h⟩
 | err c μ' => rw [q] at h; exact h
 | bad => rw [q] at h; exact h
theorem small_len {n : Nat} {xs : List SV} {vs : List V} {P : V → SV → Prop} (h : xs.length = n) (o : Paired P vs xs) (hl : n ≤ 1000) : vs.length ≤ sizeLine := by
 have e1 := o.length
 exact Nat.le_of_lt (small1000 (by lia))
theorem ce_tup {es : List Expr} {ds : List D} {x1} (h : CA X es ds) (hl : ds.length ≤ 1000 := by decide) : CE X (.Tuple es x1 pos) (dTup ds) :=
 PE.imp (pe_tup h) fun σ H Q hX11_ => by
  obtain ⟨F, α, e, μ, S, h⟩ := hX11_
  refine ⟨F, α, e, μ, S, (dArgs_wp_len (R.wp_bind h)).mono (fun xs μ1 hX21_ vs H1 F1 α1 x1 S1 o1 => ?_) fun _ _ h => h⟩
  obtain ⟨hn, h⟩ := hX21_
  have h := R.wp_bind h
  cases hz : frzs xs μ1 with
  | err c μ2 =>
   exact absurd hz (frzs_no xs μ1 c μ2)
  | bad => rw [hz] at h; exact h.elim
  | ok ts μ2 =>
   rw [hz] at h
   obtain ⟨F2, s2, n2, S2, r2⟩ := frzs_ok S1.st o1 hz
   refine ⟨small_len hn o1 hl, fun p hp => ?_⟩
   have g : Grow F2 H1 (upd F2 p (.tup vs)) (upd H1 p (.tup vs)) := Grow.new hp
   refine h _ _ (upd F2 p (.tup vs)) α1 (x1.trans ((Ex.of_ne s2 n2).trans (g.ex S2.ext))) ((S1.of s2 (List.prefix_refl _) S2).grow g) ?_
   show Rep X.K _ (.tup ts) _
   rw [Rep]
   exact ⟨p, vs, rfl, SqT.of upd_same, RepL.mono (g.same S2.ext) _ _ r2⟩
noncomputable def tF (X : Cx) (d : D) : TE := fun σ H Q => ∃ F α e μ, Sim X.K F α e μ σ H ∧ (d e μ).wp (fun x μ' => ∃ t, x = .val t ∧
 ∀ p H' F' α', Ex F α H F' α' H' → Sim X.K F' α' e μ' σ H' → H p = none → F' p = none → p ∉ α' → CellOk X.K F' H' p t → Q (.ref p) H') (XPost X F α H e)
noncomputable def CF (X : Cx) (e : Expr) (d : D) : Prop := PE X e (tF X d) ∧ ∀ e μ x μ', d e μ = .ok x μ' → ∃ t, x = .val t
theorem R.wp_val {P : SV → Store → Prop} {r : R SV} {E : T → Store → Prop} (h : r.wp P E) : r.wp (fun x μ => r = .ok x μ ∧ P x μ) E := by
 cases r with
 | ok a μ => exact ⟨rfl, h⟩
 | err c μ => exact h
 | bad => exact h
theorem ice_read {σ : St} {H : Hp} {Q : VK} (h2 : ∀ e μ x μ', da e μ = .ok x μ' → ∃ t, x = .val t) (h : tD X da σ H Q) : tF X da σ H Q := by
 obtain ⟨F, α, e, μ, S, hd⟩ := h
 refine ⟨F, α, e, μ, S, (R.wp_val hd).mono (fun x μ' hX11_ => ?_) fun _ _ h => h⟩
 obtain ⟨hx, post⟩ := hX11_
 obtain ⟨t, rfl⟩ := h2 e μ x μ' hx
 refine ⟨t, rfl, fun p H1 F1 α1 x1 S1 h0 hp hn c => ?_⟩
 obtain ⟨o, ho⟩ := c.there
 have s2 : Same F1 (upd F1 p o) := fun b z hz => by
  rw [upd_ne (fun q => by subst q; rw [hp] at hz; cases hz)]; exact hz
 have st : StOk X.K (upd F1 p o) α1 μ' H1 := by
  refine ⟨fun b z hz => ?_, S1.st.len, S1.st.nd, S1.st.there, fun k b u a' h1 h2 => ?_, S1.st.one⟩
  ·by_cases eb : b = p
   ·subst eb; rw [upd_same] at hz; cases hz; exact ho
   ·rw [upd_ne eb] at hz; exact S1.st.ext b z hz
  ·have na : a' ≠ p := fun q => by subst q; exact hn (List.mem_of_getElem? h2)
   obtain ⟨c1, c2⟩ := S1.st.cell k b u a' h1 h2
   refine ⟨fun hb => ⟨by rw [upd_ne na]; exact (c1 hb).1, ?_⟩, fun hb => Rep.mono s2 _ _ (c2 hb)⟩
   have d2 := (c1 hb).2
   cases u with
   | lst ts => obtain ⟨vs, w1, w2⟩ := d2; exact ⟨vs, w1, RepL.mono s2 _ _ w2⟩
   | dct ts => obtain ⟨vs, w1, w2⟩ := d2; exact ⟨vs, w1, RepD.mono s2 _ _ w2⟩
   | _ => exact d2.elim
 refine post _ _ (upd F1 p o) α1 (x1.ice h0 hp) (S1.of s2 (List.prefix_refl _) st) ?_
 show Rep X.K _ t _
 cases t with
 | lst ts => obtain ⟨vs, w1, w2⟩ := c; rw [w1] at ho; cases ho; rw [Rep]; exact ⟨p, vs, rfl, SqL.of upd_same, RepL.mono s2 _ _ w2⟩
 | dct ts => obtain ⟨vs, w1, w2⟩ := c; rw [w1] at ho; cases ho; rw [Rep]; exact ⟨p, vs, rfl, upd_same, RepD.mono s2 _ _ w2⟩
 | _ => exact c.elim
theorem CF.ce (h : CF X a da) : CE X a da := PE.imp h.1 fun σ H Q q => ice_read h.2 q
theorem cell_read {σ : St} {H : Hp} {Q : VK} (h2 : ∀ e μ x μ', da e μ = .ok x μ' → ∃ t, x = .val t) (h : tD X (dCell da) σ H Q) : tF X da σ H Q := by
 obtain ⟨F, α, e, μ, S, hd⟩ := h
 rw [dCell_is] at hd
 refine ⟨F, α, e, μ, S, (R.wp_val (R.wp_bind hd)).mono (fun x μ1 hX11_ => ?_) fun _ _ h => h⟩
 obtain ⟨hx, post⟩ := hX11_
 obtain ⟨t, rfl⟩ := h2 e μ x μ1 hx
 refine ⟨t, rfl, fun p H1 F1 α1 x1 S1 h0 hp hn c => ?_⟩
 obtain ⟨o, ho⟩ := c.there
 have hend : ∀ {k : Nat} {a : Addr}, (α1 ++ [p])[k]? = some a → (k < α1.length ∧ α1[k]? = some a) ∨ (k = α1.length ∧ a = p) := fun {k a} h => by
  by_cases hk : k < α1.length
  ·rw [List.getElem?_append_left hk] at h; exact .inl ⟨hk, h⟩
  ·rw [List.getElem?_append_right (by lia)] at h
   by_cases h0 : k - α1.length = 0
   ·rw [h0] at h; simp at h; exact .inr ⟨by lia, h.symm⟩
   ·rw [List.getElem?_eq_none (by simp; lia)] at h; cases h
 have st : StOk X.K F1 (α1 ++ [p]) (μ1 ++ [(true, t)]) H1 := by
  refine ⟨S1.st.ext, by simp [S1.st.len], ?_, fun k a h => ?_, fun k b u a h1 h2 => ?_, S1.st.one⟩
  ·rw [List.nodup_append]
   refine ⟨S1.st.nd, by simp, fun a ha b hb => ?_⟩
   simp at hb
   subst hb
   exact fun q => hn (by rw [← q]; exact ha)
  ·rcases hend h with ⟨_, g⟩ | ⟨_, rfl⟩
   ·exact S1.st.there k a g
   ·exact ⟨o, ho⟩
  ·rcases hend h2 with ⟨hk, g⟩ | ⟨hk, rfl⟩
   ·rw [List.getElem?_append_left (by rw [← S1.st.len]; exact hk)] at h1
    exact S1.st.cell k b u a h1 g
   ·rw [hk, S1.st.len] at h1
    simp at h1
    obtain ⟨rfl, rfl⟩ := h1
    exact ⟨fun _ => ⟨hp, c⟩, fun z => (by cases z)⟩
 refine post _ _ F1 (α1 ++ [p]) (x1.more h0) (S1.of (Same.refl _) (List.prefix_append _ _) st) ⟨p, ?_, rfl⟩
 rw [List.getElem?_append_right (by rw [S1.st.len]; exact Nat.le_refl _), S1.st.len]
 simp
theorem CF.cell (h : CF X a da) : CE X a (dCell da) := PE.imp h.1 fun σ H Q q => cell_read h.2 q
theorem not_mem_of_none {K : PySem.W.Frag} {F H : Hp} {α : List Addr} {μ : Store} {p : Addr} (S : StOk K F α μ H) (h : H p = none) : p ∉ α := fun hm => by
 obtain ⟨k, hk⟩ := List.mem_iff_getElem?.mp hm
 obtain ⟨o, ho⟩ := S.there k p hk
 rw [h] at ho; cases ho
theorem StOk.lay {K : PySem.W.Frag} {F H : Hp} {α : List Addr} {μ : Store} {p : Addr} {o : HO} (S : StOk K F α μ H) (h : H p = none) (n : NF o := by intro _ _ h; cases h) : StOk K F α μ (upd H p o) := by
 have hup : ∀ c z, H c = some z → (upd H p o) c = some z := fun c z hz => by
  rw [upd_ne (fun q => by subst q; rw [h] at hz; cases hz)]; exact hz
 refine ⟨fun a z hz => hup _ _ (S.ext a z hz), S.len, S.nd, fun k a g => ?_, fun k b u a h1 h2 => ?_, S.one.upd n⟩
 ·obtain ⟨z, hz⟩ := S.there k a g
  exact ⟨z, hup _ _ hz⟩
 ·obtain ⟨c1, c2⟩ := S.cell k b u a h1 h2
  refine ⟨fun hb => ⟨(c1 hb).1, ?_⟩, c2⟩
  have d2 := (c1 hb).2
  cases u with
  | lst ts => obtain ⟨vs, w1, w2⟩ := d2; exact ⟨vs, hup _ _ w1, w2⟩
  | dct ts => obtain ⟨vs, w1, w2⟩ := d2; exact ⟨vs, hup _ _ w1, w2⟩
  | _ => exact d2.elim
theorem cf_lst {es : List Expr} {ds : List D} (h : CA X es ds) (hl : ds.length ≤ 1000 := by decide) : CF X (.List es pos) (dLst ds) :=
 ⟨PE.imp (pe_lst h) fun σ H Q hX11_ => by
  obtain ⟨F, α, e, μ, S, h⟩ := hX11_
  refine ⟨F, α, e, μ, S, (dArgs_wp_len (R.wp_bind h)).mono (fun xs μ1 hX21_ vs H1 F1 α1 x1 S1 o1 => ?_) fun _ _ h => h⟩
  obtain ⟨hn, h⟩ := hX21_
  have h := R.wp_bind h
  cases hz : frzs xs μ1 with
  | err c μ2 =>
   exact absurd hz (frzs_no xs μ1 c μ2)
  | bad => rw [hz] at h; exact h.elim
  | ok ts μ2 =>
   rw [hz] at h
   obtain ⟨t, e1, post⟩ := h
   cases e1
   obtain ⟨F2, s2, n2, S2, r2⟩ := frzs_ok S1.st o1 hz
   refine ⟨small_len hn o1 hl, fun p hp => ?_⟩
   exact post p _ F2 α1 (x1.trans ((Ex.of_ne s2 n2).trans (Ex.lay hp))) (S1.of s2 (List.prefix_refl _) (S2.lay hp)) (x1.was S1.st hp) (S2.ext.free hp) (not_mem_of_none S2 hp) ⟨vs, upd_same, r2⟩,
 fun e μ x μ' h => by
  unfold dLst at h
  obtain ⟨xs, μ1, hx, h⟩ := R.bind_eq_ok h
  obtain ⟨ts, μ2, hz, h⟩ := R.bind_eq_ok h
  cases h
  exact ⟨_, rfl⟩⟩
theorem dUn_val {f : T → Option T} {e : Slots} {μ μ' : Store} {x : SV} (h : dUn f da e μ = .ok x μ') : ∃ t, x = .val t := by
 unfold dUn at h
 obtain ⟨x, μ1, hx, h⟩ := R.bind_eq_ok h
 obtain ⟨h9, rfl⟩ := R.lift_eq_ok h
 obtain ⟨t, w', ht, h, rfl⟩ := ap1_eq h9
 exact ⟨_, rfl⟩
theorem args1 {σ : St} {H : Hp} {Q : List V → Hp → Prop} (h : tD X da σ H fun v H' => Q [v] H') : tDA X [da] σ H Q := by
 obtain ⟨F, α, e, μ, S, h⟩ := h
 refine ⟨F, α, e, μ, S, ?_⟩
 rw [dArgs_cons]
 cases q : da e μ with
 | err c μ1 => rw [q] at h; exact h
 | bad => rw [q] at h; exact h
 | ok x μ1 =>
  rw [q] at h
  intro vs H1 F1 α1 x1 S1 o1
  cases o1 with
  | cons o1 o2 => cases o2; exact h _ H1 F1 α1 x1 S1 o1
theorem call1 {r : List V → Hp → VK → Prop} {f : T → Option T} (hs : CallSem1 X.K r f) (σ : St) (H : Hp) (Q : VK) (h : tD X (dUn f da) σ H Q) : tCB r (tDA X [da]) σ H Q :=
 args1 (one (r := fun v H Q => r [v] H Q) hs σ H Q h)
theorem call1F {r : List V → Hp → VK → Prop} {f : T → Option T} (hs : CallSemF X.K r f) (σ : St) (H : Hp) (Q : VK) (h : tF X (dUn f da) σ H Q) : tCB r (tDA X [da]) σ H Q := by
 refine args1 ?_
 obtain ⟨F, α, e, μ, S, h⟩ := h
 refine ⟨F, α, e, μ, S, ?_⟩
 refine (R.wp_bind h).mono (fun x μ1 h v H1 F1 α1 x1 S1 o1 => ?_) fun _ _ h => h
 obtain ⟨w, h9, t', e1, post⟩ := R.wp_lift h
 obtain ⟨t, w', ht, h, e2⟩ := ap1_eq h9
 subst e1
 cases e2
 exact hs F1 H1 _ t _ Q S1.st.ext (now_of S1.st o1 ht) h fun p o hp c =>
  post p _ F1 α1 (x1.trans (Ex.lay hp)) (S1.of (Same.refl _) (List.prefix_refl _) (S1.st.lay hp c.nf)) (x1.was S1.st hp) (S1.st.ext.free hp) (not_mem_of_none S1.st hp) c
end
end Fw
namespace Fw
open PySem L2
theorem asB_eq {x : SV} {k : Bool} (h : asB x = some k) : x = .val (.bl k) := by
 cases x with
 | val t => cases t <;> first | (cases h; rfl) | cases h
 | cel j => cases h
 | box xs => cases h
theorem wp_test {β : Type} {r : R SV} {f : Bool → Store → R β} {Q : β → Store → Prop} {E : T → Store → Prop} (h : (r.bind fun y μ1 => (R.lift (asB y) μ1).bind f).wp Q E) :
  r.wp (fun x μ => ∃ k, x = .val (.bl k) ∧ (f k μ).wp Q E) E := (R.wp_bind h).mono (fun x μ h => by
 obtain ⟨k, hk, h⟩ := R.wp_lift (R.wp_bind h)
 exact ⟨k, asB_eq hk, h⟩) fun _ _ h => h
noncomputable def CW (X : Cx) (e : Expr) (d : D) : Prop := PW X e (tDT X d)
theorem PW.imp {X : Cx} {e : Expr} {t t' : TT} (h : PW X e t) (i : ∀ σ H Q, t' σ H Q → t σ H Q) : PW X e t' := fun whole pins s σ H Q I q => h whole pins s σ H Q I (i σ H Q q)
theorem tD_of_tDT {X : Cx} {d : D} {σ : St} {H : Hp} {Q : Bool → Hp → Prop} (h : tDT X d σ H Q) : tD X d σ H fun x H' => ∃ k, x = .bl k ∧ Q k H' := by
 obtain ⟨F, α, e, μ, S, h⟩ := h
 refine ⟨F, α, e, μ, S, h.mono (fun x μ' hX11_ v H' F' α' y S' o => ?_) fun _ _ h => h⟩
 obtain ⟨b, hb, post⟩ := hX11_
 subst hb
 exact ⟨b, Rep.of_bl (K := X.K) (F := F') o, post H' F' α' y S'⟩
section
variable {X : Cx} {a b c : Expr} {da db dc : D} {pos : Pos} {rest : List Expr}
theorem ct_val (h : CE X a da) (he : ∀ whole, isTrue a X.env whole = (do let v ← whole; standAt a.pos; holding [v] (truthy v)) := by intro _; rfl) : CT X a da :=
 PT.imp (pt_val h he) fun σ H Q q => tD_of_tDT q
theorem ct_cmp {op : CmpOp} {r : R2} {f : T → T → Option T} (ho : OpR X (compareOp op) r) (hs : OpSem X.K r f) (hm : behindInMarks op b = false) (ha : CE X a da) (hb : CE X b db) : CT X (.Compare a [op] [b] pos) (dBin f da db) :=
 PT.imp (pt_cmpR ho ha hb hm) fun σ H Q q => two hs σ H _ (tD_of_tDT q)
theorem ct_not (h : CT X a da) : CT X (.UnaryOp .Not a pos) (dNot da) := PT.imp (pt_not h) fun σ H Q hX11_ => by
 obtain ⟨F, α, e, μ, S, h⟩ := hX11_
 refine ⟨F, α, e, μ, S, (wp_test h).mono (fun x μ1 ⟨k, hx, b, hb, h⟩ => ⟨k, hx, ?_⟩) fun _ _ h => h⟩
 cases hb
 exact h
theorem cw_one_and (h : CT X a da) : CW X (.BoolOp .And [a] pos) da := pw_and1 h
theorem cw_one_or (h : CT X a da) : CW X (.BoolOp .Or [a] pos) da := pw_or1 h
theorem CW.ct (h : CW X a da) : CT X a da := PW.pt h
theorem cw_and (ha : CT X a da) (hb : CW X (.BoolOp .And (b :: rest) pos) db) : CW X (.BoolOp .And (a :: b :: rest) pos) (dAnd da db) :=
 PW.imp (pw_and ha hb) fun σ H Q hX11_ => by
  obtain ⟨F, α, e, μ, S, h⟩ := hX11_
  refine ⟨F, α, e, μ, S, (wp_test h).mono (fun x μ1 ⟨k, hx, h⟩ => ⟨k, hx, fun H1 F1 α1 x1 S1 => ?_⟩) fun _ _ h => h⟩
  cases k with
  | true =>
   rw [if_pos rfl] at h ⊢
   exact ⟨F1, α1, e, μ1, S1, h.mono (fun y μ2 ⟨b, hb, h⟩ => ⟨b, hb, fun H2 F2 α2 x2 S2 => h H2 F2 α2 (x1.trans x2) S2⟩) fun _ _ h => h.mono x1⟩
  | false =>
   rw [if_neg Bool.false_ne_true] at h ⊢
   obtain ⟨b, hb, h⟩ := h
   cases hb
   exact h H1 F1 α1 x1 S1
theorem cw_or (ha : CT X a da) (hb : CW X (.BoolOp .Or (b :: rest) pos) db) : CW X (.BoolOp .Or (a :: b :: rest) pos) (dOr da db) :=
 PW.imp (pw_or ha hb) fun σ H Q hX11_ => by
  obtain ⟨F, α, e, μ, S, h⟩ := hX11_
  refine ⟨F, α, e, μ, S, (wp_test h).mono (fun x μ1 ⟨k, hx, h⟩ => ⟨k, hx, fun H1 F1 α1 x1 S1 => ?_⟩) fun _ _ h => h⟩
  cases k with
  | true =>
   rw [if_pos rfl] at h ⊢
   obtain ⟨b, hb, h⟩ := h
   cases hb
   exact h H1 F1 α1 x1 S1
  | false =>
   rw [if_neg Bool.false_ne_true] at h ⊢
   exact ⟨F1, α1, e, μ1, S1, h.mono (fun y μ2 ⟨b, hb, h⟩ => ⟨b, hb, fun H2 F2 α2 x2 S2 => h H2 F2 α2 (x1.trans x2) S2⟩) fun _ _ h => h.mono x1⟩
end
noncomputable def PostS (X : Cx) (F : Hp) (α : List Addr) (H : Hp) (D : Ends) : RS → Prop
 | .nx e' μ' => ∀ σ' H' F' α', Ex F α H F' α' H' → Sim X.K F' α' e' μ' σ' H' → D.nx σ' H'
 | .rt x μ' => ∀ v H' F' α', Ex F α H F' α' H' → StOk X.K F' α' μ' H' → SvOk X.K F' α' v x → D.rt v H'
 | .bk e' μ' => ∀ σ' H' F' α', Ex F α H F' α' H' → Sim X.K F' α' e' μ' σ' H' → D.bk σ' H'
 | .ct e' μ' => ∀ σ' H' F' α', Ex F α H F' α' H' → Sim X.K F' α' e' μ' σ' H' → D.ct σ' H'
 | .err c e' μ' => XPost X F α H e' c μ'
 | .bad => False
theorem PostS.mono {X : Cx} {F F' H H' : Hp} {α α' : List Addr} {D : Ends} {r : RS} (x : Ex F α H F' α' H') (h : PostS X F α H D r) : PostS X F' α' H' D r := by
 cases r with
 | nx e μ => exact fun σ H F2 α2 x2 => h σ H F2 α2 (x.trans x2)
 | rt y μ => exact fun σ H F2 α2 x2 => h σ H F2 α2 (x.trans x2)
 | bk e μ => exact fun σ H F2 α2 x2 => h σ H F2 α2 (x.trans x2)
 | ct e μ => exact fun σ H F2 α2 x2 => h σ H F2 α2 (x.trans x2)
 | err c e μ => exact XPost.mono x h
 | bad => exact h
noncomputable def tDS (X : Cx) (d : DS) : TS := fun D σ H => ∃ F α e μ, Sim X.K F α e μ σ H ∧ PostS X F α H D (d e μ)
noncomputable def CS (X : Cx) (st : Stmt) (d : DS) : Prop := PS X st (tDS X d)
noncomputable def CSs (X : Cx) (st : List Stmt) (d : DS) : Prop := PSs X st (tDS X d)
theorem PostS.toS {α' : Type} {X : Cx} {F H : Hp} {α : List Addr} {D : Ends} {x : R α'} {e : Slots} {f : α' → Store → RS} (h : PostS X F α H D (x.toS e f)) : x.wp (fun a μ => PostS X F α H D (f a μ)) (XPost X F α H e) := by
 cases x with
 | ok a μ => exact h
 | err c μ => exact h
 | bad => exact h
theorem PostS.lift {α' : Type} {X : Cx} {F H : Hp} {α : List Addr} {D : Ends} {o : Option α'} {μ : Store} {e : Slots} {f : α' → Store → RS} (h : PostS X F α H D ((R.lift o μ).toS e f)) : ∃ a, o = some a ∧ PostS X F α H D (f a μ) := R.wp_lift h.toS
theorem PostS.asB {X : Cx} {F H : Hp} {α : List Addr} {D : Ends} {x : R SV} {e : Slots} {f : Bool → Store → RS} (h : PostS X F α H D (x.toS e fun y μ1 => (R.lift (Fw.asB y) μ1).toS e f)) : x.wp (fun y μ1 => ∃ k, y = .val (.bl k) ∧ PostS X F α H D (f k μ1)) (XPost X F α H e) :=
 h.toS.mono (fun y μ h => by
  obtain ⟨k, hk, h⟩ := h.lift
  exact ⟨k, asB_eq hk, h⟩) fun _ _ h => h
section
variable {X : Cx} {st : Stmt} {sts : List Stmt} {d d1 d2 : DS} {e : Expr} {de : D} {pos : Pos}
theorem css_nil : CSs X [] sNil := PSs.imp pss_nil fun D σ H ⟨F, α, e, μ, S, h⟩ => h σ H F α Ex.refl S
theorem css_one (h : CS X st d) : CSs X [st] d := pss_one h
theorem css_cons (h1 : CS X st d1) (h2 : CSs X sts d2) : CSs X (st :: sts) (sSeq d1 d2) := PSs.imp (pss_cons h1 h2) fun D σ H hX11_ => by
 obtain ⟨F, α, e, μ, S, h⟩ := hX11_
 refine ⟨F, α, e, μ, S, ?_⟩
 unfold sSeq at h
 cases q : d1 e μ with
 | nx e1 μ1 =>
  rw [q] at h
  exact fun σ' H' F' α' x S' => ⟨F', α', e1, μ1, S', h.mono x⟩
 | rt x μ1 => rw [q] at h; exact h
 | bk e1 μ1 => rw [q] at h; exact h
 | ct e1 μ1 => rw [q] at h; exact h
 | err c e1 μ1 => rw [q] at h; exact h
 | bad => rw [q] at h; exact h
theorem cs_ret (he : CE X e de) : CS X (.Return (some e) pos) (sRet de) := PS.imp (ps_ret he) fun D σ H ⟨F, α, e, μ, S, h⟩ =>
 ⟨F, α, e, μ, S, (PostS.toS h).mono (fun x μ1 h v H1 F1 α1 x1 S1 o1 => h v H1 F1 α1 x1 S1.st o1) fun _ _ h => h⟩
theorem slot_set {e : Slots} {i j : Nat} {x y : SV} (h : slot (e.set i (some x)) j = some y) : (j = i ∧ y = x) ∨ slot e j = some y := by
 unfold slot at h
 by_cases q : i = j
 ·subst q
  by_cases hl : i < e.length
  ·rw [List.getElem?_set_self hl] at h
   cases h
   exact .inl ⟨rfl, rfl⟩
  ·rw [List.getElem?_eq_none (by rw [List.length_set]; omega)] at h
   cases h
 ·rw [List.getElem?_set_ne q] at h
  exact .inr h
theorem Sim.set {K : PySem.W.Frag} {F H : Hp} {α : List Addr} {e : Slots} {μ : Store} {σ : St} {v : V} {x : SV} {i : Nat} (S : Sim K F α e μ σ H) (o : SvOk K F α v x) : Sim K F α (e.set i (some x)) μ (σ.set i (some v)) H := by
 refine ⟨S.st, fun j y h => ?_, by rw [List.length_set, List.length_set, S.len]⟩
 by_cases q : i = j
 ·subst q
  have hl : i < e.length := by
   unfold slot at h
   by_cases hl : i < e.length
   ·exact hl
   ·rw [List.getElem?_eq_none (by rw [List.length_set]; omega)] at h
    cases h
  have hy : y = x := by
   unfold slot at h
   rw [List.getElem?_set_self hl] at h
   cases h; rfl
  subst hy
  exact ⟨v, by rw [List.getElem?_set_self (by rw [← S.len]; exact hl)], o⟩
 ·rcases slot_set h with ⟨rfl, _⟩ | h
  ·exact absurd rfl q
  ·obtain ⟨w, h1, h2⟩ := S.sl j y h
   exact ⟨w, by rw [List.getElem?_set_ne q]; exact h1, h2⟩
theorem cs_set (i : Nat) {x : Str} {pos' : Pos} (hN : X.N.Nodup) (he : CE X e de) (hi : X.N[i]? = some x := by rfl) (hx : Loc X.env.scope x := by first | exact Or.inl rfl | exact Or.inr rfl) (hs : swapsWith e (some (.Name x pos')) pos.line X.env = pure false := by rfl)
  (hf : X.fn x = true ∨ X.env.scope.names.lookup x = some .local := by first | exact .inl rfl | exact .inr rfl | assumption) : CS X (.Assign [.Name x pos'] e pos) (sSet i de) :=
 PS.imp (ps_set hN hi hx he hs hf) fun D σ H ⟨F, α, e, μ, S, h⟩ =>
  ⟨F, α, e, μ, S, (PostS.toS h).mono (fun x μ1 h v H1 F1 α1 x1 S1 o1 => h _ H1 F1 α1 x1 (S1.set o1)) fun _ _ h => h⟩
theorem cs_if {c : Expr} {as bs : List Stmt} {dc : D} (hc : CT X c dc) (ha : CSs X as d1) (hb : CSs X bs d2) : CS X (.If c as bs pos) (sIf dc d1 d2) := PS.imp (ps_if hc ha hb) fun D σ H hX11_ => by
 obtain ⟨F, α, e, μ, S, h⟩ := hX11_
 refine ⟨F, α, e, μ, S, (PostS.asB h).mono (fun x μ1 ⟨k, hk, h⟩ => ⟨k, hk, fun H1 F1 α1 x1 S1 => ?_⟩) fun _ _ h => h⟩
 cases k with
 | true => exact ⟨F1, α1, e, μ1, S1, PostS.mono x1 h⟩
 | false => exact ⟨F1, α1, e, μ1, S1, PostS.mono x1 h⟩
theorem cs_bad : CS X st sBad := PS.imp ps_never fun D σ H ⟨F, α, e, μ, S, h⟩ => h
end
end Fw
namespace Fw
open PySem PySem.Spec PyProof.Rows L2
noncomputable def ItOk (K : PySem.W.Frag) (F : Hp) (α : List Addr) (J : It) (W : Wk) : Prop := ∀ F2 α2 μ2 H2, Same F F2 → α <+: α2 → StOk K F2 α2 μ2 H2 → W.same μ2 →
 (∀ i t, W.items[i]? = some t → J.go i H2 ∧ ∀ x H3, J.yld i H2 x H3 → ∃ F3, Grow F2 H2 F3 H3 ∧ Rep K F3 t x) ∧ J.stop W.items.length H2
noncomputable def tDI (X : Cx) (d : DI) : TI := fun σ H R => ∃ F α e μ, Sim X.K F α e μ σ H ∧ (d e μ).wp (fun W μ' =>
 ∀ J H' F' α', Ex F α H F' α' H' → Sim X.K F' α' e μ' σ H' → ItOk X.K F' α' J W → R J H') (XPost X F α H e)
noncomputable def CI (X : Cx) (tg e : Expr) (d : DI) : Prop := PI X tg e (tDI X d)
theorem PI.imp {X : Cx} {tg e : Expr} {t t' : TI} (h : PI X tg e t) (i : ∀ σ H R, t' σ H R → t σ H R) : PI X tg e t' := fun pins s σ H R I q => h pins s σ H R I (i σ H R q)
noncomputable def iBoth (K : PySem.W.Frag) (tl : TE) : TI := fun σ H R => tl σ H fun x H1 => ∃ a, x = .ref a ∧ (((∃ xs, SqL K H1 a xs) ∧ R (Itl K a) H1) ∨ ((∃ xs, SqT K H1 a xs) ∧ R (Itt K a) H1))
section
variable {X : Cx} {tg : Expr}
theorem pi_both {l : Expr} {tl : TE} (hl : PE X l tl) : PI X tg l (iBoth X.K tl) := by
 intro pins s σ H R I h
 refine thn (hl pins s σ H _ I h) fun v s1 hX11_ => ?_
 obtain ⟨x, H1, I1, r1, q1⟩ := hX11_
 obtain ⟨a, e, q⟩ := q1
 subst e
 cases r1
 rcases q with ⟨⟨xs, hq⟩, q⟩ | ⟨⟨xs, hq⟩, q⟩
 ·obtain ⟨its, rv, p, hz⟩ := I1.list hq
  refine wpAny_pyIter_list p.isList ?_
  refine ⟨s1.heap.objs.size, [s1.heap.objs.size], _, _, H1, rfl, I1.kept (t' := s1.toks) fun b o e => Heap.get?_push_of_some _ e, turn_list a _, ⟨_, Heap.get?_push_size _ rfl, rfl, rfl⟩, fun b hb => ?_, q⟩
  have e : b = s1.heap.objs.size := by simpa using hb
  subst e
  exact I1.fpOk (Nat.le_refl _) (I1.hok.fresh (Nat.le_refl _))
 ·obtain ⟨its, rv, p, hz⟩ := I1.tuple hq
  refine wpAny_pyIter_tuple (show s1.heap.IsTuple a its.toArray from p) ?_
  refine ⟨s1.heap.objs.size, [s1.heap.objs.size], _, _, H1, rfl, I1.kept (t' := s1.toks) fun b o e => Heap.get?_push_of_some _ e, turn_tuple a _, ⟨_, Heap.get?_push_size _ rfl, rfl, rfl⟩, fun b hb => ?_, q⟩
  have e : b = s1.heap.objs.size := by simpa using hb
  subst e
  exact I1.fpOk (Nat.le_refl _) (I1.hok.fresh (Nat.le_refl _))
theorem ci_seq {a : Expr} {da : D} (h : CE X a da) : CI X tg a (iSeq da) := PI.imp (pi_both h) fun σ H R0 hX11_ => by
 obtain ⟨F, α, e, μ, S, h⟩ := hX11_
 refine ⟨F, α, e, μ, S, (R.wp_bind h).mono (fun x μ1 h v H1 F1 α1 x1 S1 o1 => ?_) fun _ _ h => h⟩
 obtain ⟨ts, ht, post⟩ := R.wp_lift (R.wp_bind h)
 obtain ⟨t, hr, ht⟩ := Option.bind_eq_some_iff.mp ht
 have n1 := now_of S1.st o1 hr
 cases t with
 | lst us =>
  cases ht
  obtain ⟨a, vs, rfl, hq, hl⟩ := n1
  refine ⟨a, rfl, .inl ⟨⟨vs, hq⟩, post _ H1 F1 α1 x1 S1 fun F2 α2 μ2 H2 s2 p2 S2 same => ?_⟩⟩
  obtain ⟨a', vs', e1, hq2, hl2⟩ := now_of S2 (o1.mono s2 p2) ((show rd μ2 x = rd μ1 x from same).trans hr)
  cases e1
  refine ⟨fun i t hi => ?_, ⟨vs', hq2, by rw [← hl2.length]; exact Nat.le_refl _⟩⟩
  obtain ⟨v, hv, rv⟩ := hl2.get hi
  exact ⟨⟨vs', v, hq2, hv⟩, fun y H3 hX21_ => by
   obtain ⟨e3, hy⟩ := hX21_
   subst e3
   have := hy vs' hq2
   rw [hv] at this; cases this
   exact ⟨F2, Grow.refl, rv⟩⟩
 | tup us =>
  cases ht
  obtain ⟨a, vs, rfl, hq, hl⟩ := n1
  refine ⟨a, rfl, .inr ⟨⟨vs, Same.seqT S1.st.ext hq⟩, post _ H1 F1 α1 x1 S1 fun F2 α2 μ2 H2 s2 p2 S2 same => ?_⟩⟩
  obtain ⟨a', vs', e1, hq2, hl2⟩ := now_of S2 (o1.mono s2 p2) ((show rd μ2 x = rd μ1 x from same).trans hr)
  have hq2 := Same.seqT S2.ext hq2
  cases e1
  refine ⟨fun i t hi => ?_, ⟨vs', hq2, by rw [← hl2.length]; exact Nat.le_refl _⟩⟩
  obtain ⟨v, hv, rv⟩ := hl2.get hi
  exact ⟨⟨vs', v, hq2, hv⟩, fun y H3 hX31_ => by
   obtain ⟨e3, hy⟩ := hX31_
   subst e3
   have := hy vs' hq2
   rw [hv] at this; cases this
   exact ⟨F2, Grow.refl, rv⟩⟩
 | _ => cases ht
theorem intsT_get : ∀ {n : Nat} {lo : Int} {i : Nat} {t : T}, (intsT lo n)[i]? = some t → i < n ∧ t = .int (lo + i)
 | 0, lo, i, t, h => by simp [intsT] at h
 | n + 1, lo, 0, t, h => by
  simp [intsT] at h
  subst h
  exact ⟨Nat.succ_pos _, by simp⟩
 | n + 1, lo, i + 1, t, h => by
  have h : (intsT (lo + 1) n)[i]? = some t := by simpa [intsT] using h
  obtain ⟨h1, h2⟩ := intsT_get h
  exact ⟨Nat.succ_lt_succ h1, by rw [h2]; congr 1; omega⟩
theorem intsT_length : ∀ (n : Nat) (lo : Int), (intsT lo n).length = n
 | 0, _ => rfl
 | n + 1, lo => by rw [intsT, List.length_cons, intsT_length]
theorem itr_ok {K : PySem.W.Frag} {F : Hp} {α : List Addr} (lo : Int) (n : Nat) : ItOk K F α (Itr lo n) ⟨intsT lo n, fun _ => True⟩ := fun F2 α2 μ2 H2 s2 p2 S2 _ => by
 refine ⟨fun i t hi => ?_, ?_⟩
 ·obtain ⟨h1, rfl⟩ := intsT_get hi
  exact ⟨h1, fun x H3 hX11_ => by obtain ⟨e1, e2⟩ := hX11_; subst e1; subst e2; exact ⟨F2, Grow.refl, Rep.int' _⟩⟩
 ·show n ≤ (intsT lo n).length
  rw [intsT_length]; exact Nat.le_refl _
theorem asInt_eq {t : T} {i : Int} (h : asInt t = some i) : t = .int i := by
 cases t <;> first | (cases h; rfl) | cases h
theorem ci_range1 {a : Expr} {da : D} {p pos : Pos} (hm : X.mg "range" = none) (h : CE X a da) (hg : Gl X "range" := by rfl) (hs : starEach [a] X.env = [(false, eval a X.env)] := by rfl) : CI X tg (.Call (.Name "range" p) [a] [] pos) (iRange1 da) :=
 PI.imp (pi_range1 hg hm (ca_cons h ca_nil hs) hs) fun σ H R0 hX11_ => by
  obtain ⟨F, α, e, μ, S, h⟩ := hX11_
  refine args1 ⟨F, α, e, μ, S, (R.wp_bind h).mono (fun x μ1 h v H1 F1 α1 x1 S1 o1 => ?_) fun _ _ h => h⟩
  obtain ⟨j, ht, h⟩ := R.wp_lift (R.wp_bind h)
  obtain ⟨t, hr, ht⟩ := Option.bind_eq_some_iff.mp ht
  cases asInt_eq ht
  by_cases hb' : rngOk j = true
  ·rw [if_pos hb'] at h
   have hb := rngOk_iff hb'
   cases (now_of S1.st o1 hr).int
   exact ⟨j, rfl, hb.1, hb.2, h _ H1 F1 α1 x1 S1 (itr_ok 0 j.toNat)⟩
  ·rw [if_neg hb'] at h; exact h.elim
theorem args2 {da db : D} {σ : L2.St} {H : Hp} {Q : List V → Hp → Prop} (h : ∃ F α e μ, Sim X.K F α e μ σ H ∧ (da e μ).wp (fun x μ1 => (db e μ1).wp (fun y μ2 => ∀ v u H' F' α', Ex F α H F' α' H' → Sim X.K F' α' e μ2 σ H' → SvOk X.K F' α' v x → SvOk X.K F' α' u y → Q [v, u] H') (XPost X F α H e)) (XPost X F α H e)) : tDA X [da, db] σ H Q := by
 obtain ⟨F, α, e, μ, S, h⟩ := h
 refine ⟨F, α, e, μ, S, ?_⟩
 rw [dArgs_cons]
 cases q : da e μ with
 | err c μ1 => rw [q] at h; exact h
 | bad => rw [q] at h; exact h
 | ok x μ1 =>
  rw [q] at h
  rw [R.bind_ok, dArgs_cons]
  have h : (db e μ1).wp _ _ := h
  cases q2 : db e μ1 with
  | err c μ2 => rw [q2] at h; exact h
  | bad => rw [q2] at h; exact h
  | ok y μ2 =>
   rw [q2] at h
   intro vs H1 F1 α1 x1 S1 o1
   cases o1 with
   | cons o1 o2 =>
    cases o2 with
    | cons o2 o3 => cases o3; exact h _ _ H1 F1 α1 x1 S1 o1 o2
end
noncomputable def tBd (K : PySem.W.Frag) (b : BD) : TG := fun v σ H Q => ∃ F α e μ t e', Sim K F α e μ σ H ∧ Rep K F t v ∧ b t e = some e' ∧ ∀ σ', Sim K F α e' μ σ' H → Q σ' H
noncomputable def CB (X : Cx) (tg : Expr) (b : BD) : Prop := PG X tg (tBd X.K b)
theorem PG.imp {X : Cx} {tg : Expr} {t t' : TG} (h : PG X tg t) (i : ∀ v σ H Q, t' v σ H Q → t v σ H Q) : PG X tg t' := fun pins s σ H v u Q I r q => h pins s σ H v u Q I r (i v σ H Q q)
section
variable {X : Cx} {pos : Pos}
theorem cb_name (i : Nat) {x : Str} (hN : X.N.Nodup) (hi : X.N[i]? = some x := by rfl) (hx : Loc X.env.scope x := by first | exact Or.inl rfl | exact Or.inr rfl) (hf : X.fn x = true ∨ X.env.scope.names.lookup x = some .local := by first | exact .inl rfl | exact .inr rfl | assumption) :
  CB X (.Name x pos) (bName i) := PG.imp (pg_name hN hi hx hf) fun v σ H Q hX11_ => by
 obtain ⟨F, α, e, μ, t, e', S, r, hb, q⟩ := hX11_
 cases hb
 exact q _ (S.set (x := .val t) r)
theorem cb_pair (i j : Nat) {x y : Str} {px py : Pos} {k : Nat} (hN : X.N.Nodup) (hc : X.calm = true) (hi : X.N[i]? = some x := by rfl) (hj : X.N[j]? = some y := by rfl) (hx : Loc X.env.scope x := by first | exact Or.inl rfl | exact Or.inr rfl)
  (hy : Loc X.env.scope y := by first | exact Or.inl rfl | exact Or.inr rfl)
  (hf : X.fn x = true ∨ X.env.scope.names.lookup x = some .local := by first | exact .inl rfl | exact .inr rfl | assumption) (hf' : X.fn y = true ∨ X.env.scope.names.lookup y = some .local := by first | exact .inl rfl | exact .inr rfl | assumption)
  : CB X (.Tuple [.Name x px, .Name y py] k pos) (bTup [i, j]) :=
 PG.imp (pg_tup hc (pgs_cons (pg_name hN hi hx hf) (pgs_cons (pg_name hN hj hy hf') pgs_nil))) fun v σ H Q hX11_ => by
  obtain ⟨F, α, e, μ, t, e', S, r, hb, q⟩ := hX11_
  cases t with
  | tup ts =>
   unfold bTup at hb
   simp only at hb
   by_cases hl : ts.length = [i, j].length
   ·rw [if_pos hl] at hb
    rw [Rep] at r
    obtain ⟨a, vs, rfl, hq, hr⟩ := r
    match ts, vs, hl, hr with
    | [t1, t2], vs, _, hr =>
     rw [RepL] at hr
     obtain ⟨v1, vs1, rfl, r1, hr⟩ := hr
     rw [RepL] at hr
     obtain ⟨v2, vs2, rfl, r2, hr⟩ := hr
     rw [RepL] at hr
     subst hr
     cases hb
     exact ⟨a, _, rfl, Same.seqT S.st.ext hq, rfl, v1, [v2], rfl, v2, [], rfl, rfl, q _ ((S.set (x := .val t1) r1).set (x := .val t2) r2)⟩
   ·rw [if_neg hl] at hb; cases hb
  | _ => cases hb
end
section
variable {X : Cx} {tg iter c : Expr} {body : List Stmt} {di : DI} {b : BD} {d : DS} {dc : D} {pos : Pos}
theorem cs_for (hp : PassesOwn (model X.prog X.w) X.A X.env X.xe) (hc : X.calm = true) (hi : CI X tg iter di) (hg : CB X tg b) (hb : CSs X body d) (hs : ∀ x, foldedSetIterable iter X.env x = pure x := by intro _; rfl) :
  CS X (.For tg iter body [] pos) (sFor di b d) := PS.imp (ps_for hp hc hi hg hb hs) fun D σ H hX11_ => by
 obtain ⟨F, α, e, μ, S, h⟩ := hX11_
 refine ⟨F, α, e, μ, S, (PostS.toS h).mono (fun W μ1 h J H1 F1 α1 x1 S1 ok => ?_) fun _ _ h => h⟩
 refine ⟨fun i m σ H => m = W.items.length - i ∧ i ≤ W.items.length ∧ ∃ F2 α2 e2 μ2, Same F1 F2 ∧ α1 <+: α2 ∧ Sim X.K F2 α2 e2 μ2 σ H ∧ PostS X F2 α2 H D (forL W.same b d (W.items.drop i) e2 μ2),
  ⟨_, rfl, Nat.zero_le _, F1, α1, e, μ1, Same.refl _, List.prefix_refl _, S1, PostS.mono x1 h⟩, ?_⟩
 rintro i m σ2 H2 ⟨rfl, hi, F2, α2, e2, μ2, s2, p2, S2, h⟩
 by_cases hlt : i < W.items.length
 ·rw [List.drop_eq_getElem_cons hlt] at h
  unfold forL at h
  by_cases hs : W.same μ2
  ·rw [if_pos hs] at h
   obtain ⟨g1, g2⟩ := ok F2 α2 μ2 H2 s2 p2 S2.st hs
   obtain ⟨go, yl⟩ := g1 i W.items[i] (by simp [hlt])
   cases hb' : b W.items[i] e2 with
   | none => simp only [hb'] at h; exact h.elim
   | some e3 =>
    simp only [hb'] at h
    refine .inr ⟨go, fun σ' H' => ∃ F4 α4 e4 μ4, Same F1 F4 ∧ α1 <+: α4 ∧ Sim X.K F4 α4 e4 μ4 σ' H' ∧ PostS X F4 α4 H' D (forL W.same b d (W.items.drop (i + 1)) e4 μ4),
     fun σ' H' q => ⟨W.items.length - (i + 1), by omega, rfl, hlt, q⟩, fun x H3 y => ?_⟩
    obtain ⟨F3, gr, rp⟩ := yl x H3 y
    have x3 : Ex F2 α2 H2 F3 α2 H3 := gr.ex S2.st.ext
    refine ⟨F3, α2, e2, μ2, W.items[i], e3, S2.grow gr, rp, hb', fun σ4 S4 => ⟨F3, α2, e3, μ2, S4, ?_⟩⟩
    cases q : d e3 μ2 with
    | nx e5 μ5 =>
     simp only [q] at h
     exact fun σ' H' F' α' x S' => ⟨F', α', e5, μ5, s2.trans (x3.same.trans x.same), p2.trans x.pre, S', PostS.mono (x3.trans x) h⟩
    | ct e5 μ5 =>
     simp only [q] at h
     exact fun σ' H' F' α' x S' => ⟨F', α', e5, μ5, s2.trans (x3.same.trans x.same), p2.trans x.pre, S', PostS.mono (x3.trans x) h⟩
    | bk e5 μ5 =>
     simp only [q] at h
     exact fun σ' H' F' α' x S' => h σ' H' F' α' (x3.trans x) S'
    | rt x μ5 =>
     simp only [q] at h
     exact fun v H' F' α' x S' => h v H' F' α' (x3.trans x) S'
    | err c e5 μ5 => simp only [q] at h; exact XPost.mono x3 h
    | bad => simp only [q] at h; exact h
  ·rw [if_neg hs] at h; exact h.elim
 ·have e1 : i = W.items.length := by omega
  subst e1
  rw [List.drop_length] at h
  unfold forL at h
  by_cases hs : W.same μ2
  ·rw [if_pos hs] at h
   obtain ⟨g1, g2⟩ := ok F2 α2 μ2 H2 s2 p2 S2.st hs
   exact .inl ⟨g2, h σ2 H2 F2 α2 Ex.refl S2⟩
  ·rw [if_neg hs] at h; exact h.elim
theorem cs_while (hp : PassesOwn (model X.prog X.w) X.A X.env X.xe) (hc : CT X c dc) (hb : CSs X body d) : CS X (.While c body [] pos) (sWhile dc d) := PS.imp (ps_while hp hc hb) fun D σ H hX11_ => by
 obtain ⟨F, α, e, μ, S, h⟩ := hX11_
 unfold sWhile at h
 by_cases hn : ∃ n, whileN dc d n e μ ≠ .bad
 ·rw [dif_pos hn] at h
  refine ⟨fun m σ H => ∃ F2 α2 e2 μ2, Sim X.K F2 α2 e2 μ2 σ H ∧ PostS X F2 α2 H D (whileN dc d m e2 μ2), ⟨_, F, α, e, μ, S, h⟩, ?_⟩
  rintro m σ H ⟨F2, α2, e2, μ2, S2, h⟩
  cases m with
  | zero => exact h.elim
  | succ m =>
   unfold whileN at h
   refine ⟨F2, α2, e2, μ2, S2, (PostS.asB h).mono (fun x μ3 ⟨k, hx, h⟩ => ⟨k, hx, fun H3 F3 α3 x3 S3 => ?_⟩) fun _ _ h => h⟩
   cases k with
   | false =>
    rw [if_neg Bool.false_ne_true] at h ⊢
    exact h σ H3 F3 α3 x3 S3
   | true =>
    rw [if_pos rfl] at h ⊢
    refine ⟨fun σ' H' => ∃ F4 α4 e4 μ4, Sim X.K F4 α4 e4 μ4 σ' H' ∧ PostS X F4 α4 H' D (whileN dc d m e4 μ4), fun σ' H' q => ⟨m, Nat.lt_succ_self m, q⟩, F3, α3, e2, μ3, S3, ?_⟩
    cases q : d e2 μ3 with
    | nx e5 μ5 =>
     rw [q] at h
     exact fun σ' H' F' α' x S' => ⟨F', α', e5, μ5, S', PostS.mono (x3.trans x) h⟩
    | ct e5 μ5 =>
     rw [q] at h
     exact fun σ' H' F' α' x S' => ⟨F', α', e5, μ5, S', PostS.mono (x3.trans x) h⟩
    | bk e5 μ5 =>
     rw [q] at h
     exact fun σ' H' F' α' x S' => h σ' H' F' α' (x3.trans x) S'
    | rt x μ5 =>
     rw [q] at h
     exact fun σ' H' F' α' x S' => h σ' H' F' α' (x3.trans x) S'
    | err c e5 μ5 => rw [q] at h; exact XPost.mono x3 h
    | bad => rw [q] at h; exact h
 ·rw [dif_neg hn] at h; exact h.elim
end
end Fw
namespace L2
open PySem PySem.Spec PyProof.Rows
theorem compLoop_gen {prog : Program} {w : World} {A : Around} {R : Result → Shared → Prop} {s : Shared} {elt target iter : Expr} {ifs : List Expr} {scope : Scope} {pos : Pos} {it acc : Value} {env : Env} (I : Nat → Shared → Prop)
  (turn : ∀ n s, I n s → wpAny (model prog w) A (pyNext it) (fun r s₁ => match r with
   | none => R (.ok .next) s₁
   | some v => wpAny (model prog w) A (letOwnedTupleGo target it v) (fun _ s₁' => wpAny (model prog w) A (assign target env v) (fun _ s₂ =>
     wpAny (model prog w) A (forIn ifs true fun c r => if r = true then do let ok ← isTrue c env (eval c env); pure (ForInStep.yield ok) else pure (ForInStep.yield r)) (fun ok s₃ =>
      if ok = true then wpAny (model prog w) A (eval elt env) (fun x s₄ =>
       wpAny (model prog w) A (call (.builtin "list.append") [acc, x]) (fun _ s₅ => ∃ m, m < n ∧ I m s₅) (fun _ _ => False) s₄) (fun _ _ => False) s₃
      else ∃ m, m < n ∧ I m s₃) (fun _ _ => False) s₂) (fun _ _ => False) s₁') (fun _ _ => False) s₁) (fun _ _ => False) s)
  (n : Nat) (h : I n s) : codeAny (model prog w) A (.compLoop (.ListComp elt [⟨target, iter, ifs, 0⟩] scope pos) 0 it acc env) R s := by
 have no : ∀ {α : Type} {t : Sem α} {Q : α → Shared → Prop} {E : Value → Shared → Prop} {s : Shared}, wpAny (model prog w) A t Q (fun _ _ => False) s → wpAny (model prog w) A t Q E s := fun h => wpAny_mono h (fun _ _ x => x) fun _ _ x => x.elim
 refine codeAny_loop rfl I (fun n s hI => ?_) n h
 show wpAny _ A ((compTurn (.ListComp elt [⟨target, iter, ifs, 0⟩] scope pos) 0 it acc env).onRaise (fun x => do noteFrame x env; theTreesLotGoes x)) _ _ s
 refine wpAny_noted ?_
 rw [compTurn_list]
 refine wpAny_bind (wpAny_standAt (wpAny_bind (wpAny_mono (no (turn n s hI)) (fun r s₁ h₁ => ?_) fun _ _ h' => h')))
 cases r with
 | none => exact wpAny_pure h₁
 | some v =>
  refine wpAny_bind (wpAny_mono (no h₁) (fun _ s₁' h₁' => ?_) fun _ _ h' => h')
  refine wpAny_bind (wpAny_mono (no h₁') (fun _ s₂ h₂ => wpAny_bind (wpAny_mono (no h₂) (fun ok s₃ h₃ => ?_) fun _ _ h' => h')) fun _ _ h' => h')
  cases ok with
  | false => exact wpAny_pure ⟨rfl, h₃⟩
  | true =>
   exact wpAny_bind (wpAny_bind (wpAny_mono (no h₃) (fun x s₄ h₄ => wpAny_bind (wpAny_mono (no h₄) (fun _ s₅ h₅ => wpAny_pure (wpAny_pure ⟨rfl, h₅⟩)) fun _ _ h' => h')) fun _ _ h' => h'))
noncomputable def compCx (X : Cx) (N' : List Str) (scope : Scope) (cl : List (Str × Addr)) (C : Addr) (s₀ : Shared) (H₀ : Hp) (ex : List Addr) : Cx :=
 { X with N := N', s₀ := s₀, H₀ := H₀, env := compEnvC scope cl C X.env, outer := X.stack, stack := X.stack, ex := ex, fn := fun x => (scope.names.lookup x == some NameKind.cell), pn := [], xe := fun _ _ => False }
noncomputable def PIfs (X : Cx) (ifs : List Expr) (t : TT) : Prop :=
 ∀ (pins : List (Addr × Obj)) (s : Shared) (σ : St) (H : Hp) (Q : Bool → Hp → Prop), Inv X pins σ H s → t σ H Q →
  wpAny (model X.prog X.w) X.A (forIn ifs true fun c r => if r = true then do let ok ← isTrue c X.env (eval c X.env); pure (ForInStep.yield ok) else pure (ForInStep.yield r)) (TP X pins σ Q) X.xe s
theorem pifs_nil {X : Cx} : PIfs X [] (fun _ H Q => Q true H) := fun _ _ _ H _ I h => wpAny_tests_nil ⟨H, I, h⟩
theorem pifs_one {X : Cx} {c : Expr} {t : TT} (h : PT X c t) : PIfs X [c] t := fun pins s σ H Q I q => wpAny_tests_one (h pins s σ H Q I q)
noncomputable def iniV (mp : List (Option Nat)) (σ : St) : St := mp.map fun o => o.bind fun j => (σ[j]?).bind id
structure CompScope (X : Cx) (N' : List Str) (scope : Scope) (mp : List (Option Nat)) : Prop where
 kind : scope.kind = .function
 cells : (scope.names.filter fun y => y.2 == NameKind.cell).length ≤ 1
 nd : (scope.names.map (·.1)).Nodup
 loc : ∀ x ∈ scope.names, x.2 = .local → scope.names.lookup x.1 = some .local
 free : ∀ y ∈ scope.names, y.2 = .free → X.env.kindOf y.1 = some .cell ∨ X.env.kindOf y.1 = some .free
 len : mp.length = N'.length
 from_ : ∀ (i j : Nat), mp[i]? = some (some j) → ∃ x, N'[i]? = some x ∧ X.N[j]? = some x ∧ (x, NameKind.free) ∈ scope.names ∧ (X.env.scope.names.lookup x = some .cell ∨ X.env.scope.names.lookup x = some .free)
 seen : ∀ x, (x, NameKind.free) ∈ scope.names → (relabel scope X.env).names.lookup x = some .cell ∨ (relabel scope X.env).names.lookup x = some .free
 back : ∀ x, (relabel scope X.env).names.lookup x = some .cell ∨ (relabel scope X.env).names.lookup x = some .free → (x, NameKind.free) ∈ scope.names ∨ scope.names.lookup x = some .cell
inductive OneCell (names : List (Str × NameKind)) (n : Nat) (h : Heap) (acc : List (Str × Addr)) : Prop where
 | no (h0 : ∀ x, names.lookup x ≠ some .cell) (h1 : cellsFrom n names acc = acc) (h2 : pushCells h names = h)
 | one (y : Str) (h0 : ∀ x, names.lookup x = some .cell → x = y) (hy : names.lookup y = some .cell) (h1 : cellsFrom n names acc = (y, n) :: acc) (h2 : pushCells h names = h.push { cls := .type "cell", data := .cell none })
theorem no_cells : ∀ (names : List (Str × NameKind)) (n : Nat) (h : Heap) (acc : List (Str × Addr)), names.filter (fun y => y.2 == NameKind.cell) = [] → (∀ x, names.lookup x ≠ some .cell) ∧ cellsFrom n names acc = acc ∧ pushCells h names = h
 | [], n, h, acc, _ => ⟨fun x => by simp, rfl, rfl⟩
 | (y, k) :: names, n, h, acc, e => by
  rw [List.filter_cons] at e
  cases hk : (k == NameKind.cell) with
  | true => rw [if_pos (by exact hk)] at e; cases e
  | false =>
   rw [if_neg (by simp [hk])] at e
   obtain ⟨h1, h2, h3⟩ := no_cells names n h acc e
   refine ⟨fun x hx => ?_, ?_, ?_⟩
   ·rw [List.lookup_cons] at hx
    cases hb : x == y with
    | true => rw [hb] at hx; cases hx; simp at hk
    | false => rw [hb] at hx; exact h1 x hx
   ·unfold cellsFrom; rw [if_neg (by simp [hk])]; exact h2
   ·unfold pushCells; rw [if_neg (by simp [hk])]; exact h3
theorem one_cell : ∀ (names : List (Str × NameKind)) (n : Nat) (h : Heap) (acc : List (Str × Addr)), (names.filter fun y => y.2 == NameKind.cell).length ≤ 1 → (names.map (·.1)).Nodup → OneCell names n h acc
 | [], n, h, acc, _, _ => .no (fun x => by simp) rfl rfl
 | (y, k) :: names, n, h, acc, e, nd => by
  rw [List.filter_cons] at e
  have nd' := List.nodup_cons.mp (by simpa using nd : (y :: names.map (·.1)).Nodup)
  cases hk : (k == NameKind.cell) with
  | true =>
   rw [if_pos (by exact hk)] at e
   have e0 : names.filter (fun y => y.2 == NameKind.cell) = [] := List.length_eq_zero_iff.mp (by simpa using e)
   obtain ⟨h1, h2, h3⟩ := no_cells names (n + 1) (h.push { cls := .type "cell", data := .cell none }) ((y, n) :: acc) e0
   have ek : k = .cell := by simpa using hk
   subst ek
   refine .one y (fun x hx => ?_) (by simp) ?_ ?_
   ·rw [List.lookup_cons] at hx
    cases hb : x == y with
    | true => exact eq_of_beq hb
    | false => rw [hb] at hx; exact absurd hx (h1 x)
   ·unfold cellsFrom; rw [if_pos (by simp)]; exact h2
   ·unfold pushCells; rw [if_pos (by simp)]; exact h3
  | false =>
   rw [if_neg (by simp [hk])] at e
   have kn : k ≠ .cell := by simpa using hk
   have lk : ∀ x, ((y, k) :: names).lookup x = some .cell → names.lookup x = some .cell := fun x hx => by
    rw [List.lookup_cons] at hx
    cases hb : x == y with
    | true => rw [hb] at hx; cases hx; exact absurd rfl kn
    | false => rw [hb] at hx; exact hx
   cases one_cell names n h acc e nd'.2 with
   | no h0 h1 h2 =>
    refine .no (fun x hx => h0 x (lk x hx)) ?_ ?_
    ·unfold cellsFrom; rw [if_neg (by simp [hk])]; exact h1
    ·unfold pushCells; rw [if_neg (by simp [hk])]; exact h2
   | one z h0 hz h1 h2 =>
    have zne : (z == y) = false := by
     have : z ≠ y := fun q => by
      subst q
      exact nd'.1 (List.mem_map.mpr ⟨_, PySem.mem_of_lookup hz, rfl⟩)
     simpa using this
    refine .one z (fun x hx => h0 x (lk x hx)) (by rw [List.lookup_cons, zne]; exact hz) ?_ ?_
    ·unfold cellsFrom; rw [if_neg (by simp [hk])]; exact h1
    ·unfold pushCells; rw [if_neg (by simp [hk])]; exact h2
theorem newEnv_comp {M : Model} {A : Around} {E : Value → Shared → Prop} {s : Shared} {scope : Scope} {globals : Addr} {cl : List (Str × Addr)} {qual : Str} {outer : Env} {Q : Env → Shared → Prop}
  (hQ : Q (newEnv scope s.heap.objs.size globals (cellsFrom (s.heap.objs.size + 1) scope.names cl) qual none .none (some outer) builtinsNs) { s with heap := pushCells (s.heap.push { cls := .type "dict", data := .dict #[] }) scope.names }) :
  wpAny M A (newFunctionEnv scope globals cl [] qual none .none (some outer)) Q E s := by
 simp only [newFunctionEnv, Option.isSome_some, if_true]
 refine wpAny_bind (wpAny_alloc ?_)
 refine wpAny_bind (wpAny_layCells _ (fun name kind cells => by cases hkc : kind == NameKind.cell <;> simp [hkc]) _ _ _ _ ?_)
 rw [show ({ s with heap := s.heap.push { cls := .type "dict", data := .dict #[] } } : Shared).heap.objs.size = s.heap.objs.size + 1 from Heap.size_push ..]
 simp only [List.forIn_nil]
 exact wpAny_bind (wpAny_pure (wpAny_pure hQ))
theorem closure_list {env : Env} : ∀ (names : List (Str × NameKind)) (acc : List (Str × Addr)), (∀ y ∈ names, y.2 = .free → ∃ c, env.cells.lookup y.1 = some c) →
  ∃ cl : List (Str × Addr), (forIn names acc fun x r => (if (x.2 == NameKind.free) = true then do let c ← cellOf env x.1; pure (ForInStep.yield ((x.1, c) :: r)) else pure (ForInStep.yield r) : Sem (ForInStep (List (Str × Addr))))) = pure cl ∧
   (∀ x c, cl.lookup x = some c → acc.lookup x = some c ∨ env.cells.lookup x = some c) ∧ (∀ x, (x, NameKind.free) ∈ names ∨ (acc.lookup x).isSome = true → (cl.lookup x).isSome = true)
 | [], acc, _ => ⟨acc, rfl, fun x c h => .inl h, fun x h => by
   rcases h with h | h
   ·simp at h
   ·exact h⟩
 | (n, k) :: r, acc, h => by
  by_cases hk : k = .free
  ·subst hk
   obtain ⟨c, hc⟩ := h (n, .free) List.mem_cons_self rfl
   obtain ⟨cl, e, h1, h2⟩ := closure_list r ((n, c) :: acc) fun y hy => h y (List.mem_cons_of_mem _ hy)
   refine ⟨cl, ?_, fun x d hx => ?_, fun x hx => h2 x ?_⟩
   ·rw [List.forIn_cons]
    have e1 : (NameKind.free == NameKind.free) = true := by decide
    simp only [e1, if_true]
    have e2 : cellOf env n = pure c := by simp only [cellOf, hc]
    rw [e2]
    exact e
   ·rcases h1 x d hx with g | g
    ·rw [List.lookup_cons] at g
     cases q : x == n with
     | true =>
      rw [q] at g
      cases g
      have : x = n := by simpa using q
      subst this
      exact .inr hc
     | false => rw [q] at g; exact .inl g
    ·exact .inr g
   ·rcases hx with hx | hx
    ·rcases List.mem_cons.mp hx with g | g
     ·cases g
      right
      simp [List.lookup_cons]
     ·exact .inl g
    ·right
     rw [List.lookup_cons]
     cases q : x == n with
     | true => rfl
     | false => exact hx
  ·obtain ⟨cl, e, h1, h2⟩ := closure_list r acc fun y hy => h y (List.mem_cons_of_mem _ hy)
   refine ⟨cl, ?_, h1, fun x hx => h2 x ?_⟩
   ·rw [List.forIn_cons]
    have e1 : (k == NameKind.free) = false := by simpa using hk
    simp only [e1, Bool.false_eq_true, if_false]
    exact e
   ·rcases hx with hx | hx
    ·rcases List.mem_cons.mp hx with g | g
     ·cases g
      exact absurd rfl hk
     ·exact .inl g
    ·exact .inr hx
theorem closure_ok {scope : Scope} {env : Env} (h : ∀ y ∈ scope.names, y.2 = .free → ∃ c, env.cells.lookup y.1 = some c) :
  ∃ cl, closureFor scope env = pure cl ∧ (∀ x c, cl.lookup x = some c → env.cells.lookup x = some c) ∧ (∀ x, (x, NameKind.free) ∈ scope.names → (cl.lookup x).isSome = true) := by
 obtain ⟨cl, e, h1, h2⟩ := closure_list (env := env) scope.names [] h
 refine ⟨cl, ?_, fun x c hx => (h1 x c hx).elim (fun g => by simp at g) id, fun x hx => h2 x (.inl hx)⟩
 simp only [closureFor]
 rw [e]
 rfl
section
variable {X : Cx} {elt iter tg : Expr} {ifs : List Expr} {scope : Scope} {pos : Pos} {N' : List Str} {g : TG} {tc : TT} {te : TE} {mp : List (Option Nat)}
noncomputable def tLoop (J : It) (mp : List (Option Nat)) (g : TG) (tc : TT) (te : TE) (σ : St) (H : Hp) (Q : VK) : Prop := ∀ p, H p = none → ∃ W : Nat → Nat → St → Hp → Prop, (∃ m, W 0 m (iniV mp σ) (upd H p (.lst []))) ∧ ∀ i m σ H, W i m σ H →
 (J.stop i H ∧ Q (.ref p) H) ∨ (J.go i H ∧ ∃ N : St → Hp → Prop, (∀ σ' H', N σ' H' → ∃ m', m' < m ∧ W (i + 1) m' σ' H') ∧ ∀ x H', J.yld i H x H' → g x σ H' fun σ2 H2 => tc σ2 H2 fun b H3 =>
  if b = true then te σ2 H3 fun y H4 => rAppend (.ref p) [y] H4 fun _ H5 => N σ2 H5 else N σ2 H3)
theorem iniV_get {mp : List (Option Nat)} {σ : St} {i : Nat} {v : V} (h : (iniV mp σ)[i]? = some (some v)) : ∃ j, mp[i]? = some (some j) ∧ σ[j]? = some (some v) := by
 unfold iniV at h
 rw [List.getElem?_map] at h
 cases q : mp[i]? with
 | none => rw [q] at h; cases h
 | some o =>
  cases o with
  | none => rw [q] at h; cases h
  | some j =>
   rw [q] at h
   refine ⟨j, rfl, ?_⟩
   have h : (σ[j]?).bind id = some v := by simpa using h
   cases z : σ[j]? with
   | none => rw [z] at h; cases h
   | some y => rw [z] at h; have h : y = some v := h; rw [h]
theorem inv_comp {pins : List (Addr × Obj)} {σ : St} {H : Hp} {s₀ : Shared} {C : Addr} {h₁ : Heap} {t' : Nat} {cl : List (Str × Addr)} {fp : List Addr} (hS : CompScope X N' scope mp) (I : Inv X pins σ H s₀)
  (hcl : ∀ x c, cl.lookup x = some c → X.env.cells.lookup x = some c ∨ (scope.names.lookup x = some .cell ∧ c = C + 1 ∧ h₁.IsCell c none ∧ ∀ z, scope.names.lookup z = some .cell → z = x)) (hcs : ∀ x, (x, NameKind.free) ∈ scope.names → (cl.lookup x).isSome = true ∧ ∀ c, cl.lookup x = some c → X.env.cells.lookup x = some c)
  (hcn : ∀ x, scope.names.lookup x = some .cell → cl.lookup x = some (C + 1))
  (hC : C = s₀.heap.objs.size) (keep : ∀ b o, s₀.heap.get? b = some o → h₁.get? b = some o) (ns : ∃ m, h₁.Ns C m) (hf : ∀ b ∈ fp, FpOk X pins H b) (hfp : ∀ b ∈ fp, b < s₀.heap.objs.size) :
  Inv (compCx X N' scope cl C s₀ H fp) [] (iniV mp σ) H { s₀ with heap := h₁, toks := t' } := by
 obtain ⟨m0, ns⟩ := ns
 have cellK : ∀ c v, s₀.heap.IsCell c v → h₁.IsCell c v := fun c v ⟨o, ho, hd⟩ => ⟨o, keep c o ho, hd⟩
 refine ⟨⟨I.ok.mod, hS.kind, I.ok.glob, I.ok.blt, Nat.le_of_eq hC.symm, fun x y c h1 h2 => ?_, fun x hx => ?_, fun x c h hx => ?_, I.ok.hd, I.ok.frames, .inl rfl, fun b hb => ⟨?_, fun x c h => ?_⟩, I.bs, Nat.le_trans I.ok.bsz I.sz,
   fun b o e hb => ?_, fun b hb hs => ?_, I.stack, I.stkFree⟩, rfl, I.bare, Un.kept keep, ⟨m0, ns, fun i x v e1 e2 e3 => ?_⟩, fun x c h => ?_, ?_, fun x c h => ?_, fun p hp => absurd hp (by intro z; cases z), I.hok.kept keep, ?_⟩
 ·have old : ∀ z, X.env.cells.lookup z = some c → c < s₀.heap.objs.size := fun z hz => by
   obtain ⟨v, q⟩ := I.cell z c hz
   exact q.lt
  rcases hcl x c h1 with a | ⟨a, ca, _, ua⟩
  ·rcases hcl y c h2 with b | ⟨b, cb, _⟩
   ·exact I.ok.inj x y c a b
   ·have := old x a
    rw [cb, hC] at this
    exact absurd this (Nat.not_lt.mpr (Nat.le_succ _))
  ·rcases hcl y c h2 with b | ⟨b, cb, _⟩
   ·have := old y b
    rw [ca, hC] at this
    exact absurd this (Nat.not_lt.mpr (Nat.le_succ _))
   ·exact (ua y b).symm
 ·rcases hS.back x hx with q | q
  ·exact Option.isSome_iff_exists.mp (hcs x q).1
  ·exact ⟨_, hcn x q⟩
 ·have q : scope.names.lookup x = some .cell := by
   have h : (scope.names.lookup x == some NameKind.cell) = true := h
   simpa using h
  have hx : cl.lookup x = some c := hx
  rw [hcn x q] at hx
  cases hx
  rw [hC]
  exact Nat.le_succ _
 ·intro z
  have := hfp b hb
  rw [z] at this
  have h2 : C < s₀.heap.objs.size := this
  rw [hC] at h2
  exact Nat.lt_irrefl _ h2
 ·rcases hcl x c h with a | ⟨a, ca, _⟩
  ·exact (hf b hb).2.2.2.2.1 x c a
  ·have := hfp b hb
   rw [ca, hC]
   exact fun q => absurd (q ▸ this) (Nat.not_lt.mpr (Nat.le_succ _))
 ·rcases (hf b hb).2.2.2.1 with z | z
  ·exact I.ok.noex b o e z
  ·exact absurd (Nat.lt_of_lt_of_le (Heap.lt_size e) (Nat.le_trans I.ok.bsz z)) (Nat.lt_irrefl _)
 ·rcases List.mem_cons.mp (I.stkSub b hs) with z | z
  ·exact (hf b hb).2.1 z
  ·exact (hf b hb).2.2.1 z
 ·obtain ⟨j, hj, hv⟩ := iniV_get e2
  obtain ⟨y, y1, y2, y3, y4⟩ := hS.from_ i j hj
  have hy : y = x := by
   have : (compCx X N' scope cl C s₀ H fp).N[i]? = some y := y1
   rw [e1] at this
   exact (Option.some.inj this).symm
  subst hy
  obtain ⟨m, hn, hl⟩ := I.loc
  obtain ⟨u, ru, lk⟩ := hl j y v y2 hv (y4.elim (fun z => .inr (.inl z)) fun z => .inr (.inr z))
  refine ⟨u, ru, ?_⟩
  rcases lk with ⟨hk, _⟩ | ⟨hk, c, hc, hcell⟩
  ·exfalso
   have hk : X.env.scope.names.lookup y = some .local := hk
   rcases y4 with z | z
   ·rw [hk] at z; cases z
   ·rw [hk] at z; cases z
  ·obtain ⟨c', hc'⟩ := Option.isSome_iff_exists.mp (hcs y y3).1
   have : c' = c := by
    have q := (hcs y y3).2 c' hc'
    rw [hc] at q
    exact (Option.some.inj q).symm
   subst this
   exact .inr ⟨hS.seen y y3, c', hc', cellK _ _ hcell⟩
 ·rcases hcl x c h with a | ⟨_, _, a, _⟩
  ·obtain ⟨v, hv⟩ := I.cell x c a
   exact ⟨v, cellK _ _ hv⟩
  ·exact ⟨none, a⟩
 ·show H C = none
  rw [hC]
  exact I.hok.fresh (Nat.le_refl _)
 ·rcases hcl x c h with a | ⟨_, a, _⟩
  ·exact I.freeC x c a
  ·rw [a, hC]; exact I.hok.fresh (Nat.le_succ _)
 ·show (iniV mp σ).length = N'.length
  unfold iniV
  rw [List.length_map, hS.len]
theorem comp_core {pins : List (Addr × Obj)} {s₂ : Shared} {σ : St} {H₂ : Hp} {it : Addr} {fp : List Addr} {tn : Nat → Heap → Prop} {J : It} {cl : List (Str × Addr)} {Q : VK} {RR : Value → Addr → Result → Shared → Prop} {E : Value → Shared → Prop}
  (hS : CompScope X N' scope mp) (hcalm : X.calm = true) (hg : ∀ cl C s₀ H₀ ex, PG (compCx X N' scope cl C s₀ H₀ ex) tg g) (hc : ∀ cl C s₀ H₀ ex, PIfs (compCx X N' scope cl C s₀ H₀ ex) ifs tc) (he : ∀ cl C s₀ H₀ ex, PE (compCx X N' scope cl C s₀ H₀ ex) elt te)
  (hcl : ∀ x c, cl.lookup x = some c → X.env.cells.lookup x = some c) (hcs : ∀ x, (x, NameKind.free) ∈ scope.names → (cl.lookup x).isSome = true)
  (I : Inv X pins σ H₂ s₂) (T : Turn X.prog X.w X.K tg J fp it tn) (st : tn 0 s₂.heap) (hf : ∀ b ∈ fp, FpOk X pins H₂ b) (hq : tLoop J mp g tc te σ H₂ Q)
  (fin : ∀ p C s' H', Inv X pins σ H' s' → FpOk X pins H' C → (∃ m, s'.heap.Ns C m) → Q (.ref p) H' → RR (.ref p) C (.ok .next) s') :
  wpAny (model X.prog X.w) X.A (newList []) (fun acc s₃ => wpAny (model X.prog X.w) X.A (newFunctionEnv scope X.env.globals cl [] X.env.qual none .none (some X.env)) (fun cenv s₄ =>
   codeAny (model X.prog X.w) X.A (.compStart (.ListComp elt [⟨tg, iter, ifs, 0⟩] scope pos) 0 (.ref it) acc { cenv with scope := relabel scope X.env }) (RR acc cenv.locals) s₄) E s₃) E s₂ := by
 refine wpAny_newObj_type (newEnv_comp ?_)
 dsimp only
 have I₃ : Inv X pins σ (upd H₂ s₂.heap.objs.size (.lst [])) { s₂ with heap := s₂.heap.push { cls := .type "list", dict := none, data := .seq ([] : List Value).toArray } } :=
  I.lnew (t' := s₂.toks) (ys := []) .nil (Nat.zero_le _)
 generalize hH2 : s₂.heap.push { cls := .type "list", dict := none, data := .seq ([] : List Value).toArray } = H2 at I₃ ⊢
 obtain ⟨h₁, hh1⟩ : ∃ h₁, h₁ = pushCells (H2.push { cls := .type "dict", data := .dict #[] }) scope.names := ⟨_, rfl⟩
 rw [← hh1]
 have hns₁ : h₁.Ns H2.objs.size (fun _ => none) := by rw [hh1]; exact (Heap.Ns.new H2 (.type "dict")).keeps (pushCells_keeps _ _)
 obtain ⟨cl', hcl'⟩ : ∃ cl', cl' = cellsFrom (H2.objs.size + 1) scope.names cl := ⟨_, rfl⟩
 rw [← hcl']
 have oneC := one_cell scope.names (H2.objs.size + 1) (H2.push { cls := .type "dict", data := .dict #[] }) cl hS.cells hS.nd
 have fc : ∀ x, (x, NameKind.free) ∈ scope.names → scope.names.lookup x ≠ some .cell := fun x hx q => by
  have nd := hS.nd
  have m2 := PySem.mem_of_lookup q
  have key : ∀ l : List (Str × NameKind), (l.map (·.1)).Nodup → (x, NameKind.free) ∈ l → (x, NameKind.cell) ∈ l → False := by
   intro l
   induction l with
   | nil => intro _ h; cases h
   | cons a l ih =>
    intro nd h1 h2
    have nd' := List.nodup_cons.mp (by simpa using nd : (a.1 :: l.map (·.1)).Nodup)
    rcases List.mem_cons.mp h1 with e1 | h1
    ·rcases List.mem_cons.mp h2 with e2 | h2
     ·rw [← e1] at e2; cases e2
     ·exact nd'.1 (List.mem_map.mpr ⟨_, h2, by rw [← e1]⟩)
    ·rcases List.mem_cons.mp h2 with e2 | h2
     ·exact nd'.1 (List.mem_map.mpr ⟨_, h1, by rw [← e2]⟩)
     ·exact ih nd'.2 h1 h2
  exact key _ nd hx m2
 have hcl0 : ∀ x c, cl'.lookup x = some c → X.env.cells.lookup x = some c ∨ (scope.names.lookup x = some .cell ∧ c = H2.objs.size + 1 ∧ h₁.IsCell c none ∧ ∀ z, scope.names.lookup z = some .cell → z = x) := fun x c h => by
  cases oneC with
  | no _ e1 _ => rw [hcl'.trans e1] at h; exact .inl (hcl x c h)
  | one y h0 hy e1 e2 =>
   rw [hcl'.trans e1, List.lookup_cons] at h
   cases hb : x == y with
   | true =>
    rw [hb] at h
    have hxy : x = y := eq_of_beq hb
    have h : some (H2.objs.size + 1) = some c := h
    cases h
    subst hxy
    refine .inr ⟨hy, rfl, ?_, fun z hz => h0 z hz⟩
    rw [hh1.trans e2, ← Heap.size_push H2 { cls := .type "dict", data := .dict #[] }]
    exact ⟨_, Heap.get?_push_size _ rfl, rfl⟩
   | false => rw [hb] at h; exact .inl (hcl x c h)
 have hcs0 : ∀ x, (x, NameKind.free) ∈ scope.names → (cl'.lookup x).isSome = true ∧ ∀ c, cl'.lookup x = some c → X.env.cells.lookup x = some c := fun x hx => by
  have el : cl'.lookup x = cl.lookup x := by
   cases oneC with
   | no _ e1 _ => rw [hcl'.trans e1]
   | one y h0 hy e1 e2 =>
    rw [hcl'.trans e1, List.lookup_cons]
    cases hb : x == y with
    | true => exact absurd ((eq_of_beq hb) ▸ hy) (fc x hx)
    | false => rfl
  rw [el]
  exact ⟨hcs x hx, fun c hc => hcl x c hc⟩
 have hcn0 : ∀ x, scope.names.lookup x = some .cell → cl'.lookup x = some (H2.objs.size + 1) := fun x hx => by
  cases oneC with
  | no h0 _ _ => exact absurd hx (h0 x)
  | one y h0 hy e1 e2 =>
   rw [hcl'.trans e1, h0 x hx, List.lookup_cons]
   simp
 have fresh : H₂ s₂.heap.objs.size = none := I.hok.fresh (Nat.le_refl _)
 have fpl : ∀ b ∈ fp, b < s₂.heap.objs.size := fun b hb => by
  obtain ⟨o, ho, _⟩ := T.obj _ _ st b hb
  exact Heap.lt_size ho
 have hszl : s₂.heap.objs.size ≤ H2.objs.size := by rw [← hH2, Heap.size_push]; exact Nat.le_succ _
 have old2 : ∀ b o, s₂.heap.get? b = some o → H2.get? b = some o := fun b o e => by rw [← hH2]; exact Heap.get?_push_of_some _ e
 have old : ∀ b o, H2.get? b = some o → h₁.get? b = some o := fun b o e => by rw [hh1]; exact pushCells_keeps _ _ _ _ (Heap.get?_push_of_some _ e)
 have hf3 : ∀ b ∈ fp, FpOk X pins (upd H₂ s₂.heap.objs.size (.lst [])) b := fun b hb => ⟨by rw [upd_ne (Nat.ne_of_lt (fpl b hb))]; exact (hf b hb).1, (hf b hb).2⟩
 have I₄ := inv_comp (t' := s₂.toks) (N' := N') (C := H2.objs.size) (h₁ := h₁) hS I₃ hcl0 hcs0 hcn0 rfl old ⟨_, hns₁⟩ hf3 fun b hb => Nat.lt_of_lt_of_le (fpl b hb) hszl
 have st4 : tn 0 h₁ := T.keep _ _ _ st fun b hb o e => old b o (old2 b o e)
 obtain ⟨W, ⟨m0, w0⟩, turn⟩ := hq s₂.heap.objs.size fresh
 generalize hX' : compCx X N' scope cl' H2.objs.size { s₂ with heap := H2 } (upd H₂ s₂.heap.objs.size (.lst [])) fp = X' at I₄
 have hg' : PG X' tg g := hX' ▸ hg _ _ _ _ _
 have hc' : PIfs X' ifs tc := hX' ▸ hc _ _ _ _ _
 have he' : PE X' elt te := hX' ▸ he _ _ _ _ _
 have e1 : X'.prog = X.prog := by rw [← hX']; rfl
 have e2 : X'.w = X.w := by rw [← hX']; rfl
 have e3 : X'.K = X.K := by rw [← hX']; rfl
 have e4 : X'.calm = true := by rw [← hX']; exact hcalm
 have e5 : X'.A = X.A := by rw [← hX']; rfl
 have e6 : X'.env = compEnvC scope cl' H2.objs.size X.env := by rw [← hX']; rfl
 have e7 : X'.xe = fun _ _ => False := by rw [← hX']; rfl
 have stat : ∀ {H' : Hp}, (∀ b ∈ fp, H' b = none) → ∀ b ∈ fp, FpOk X' [] H' b := fun {H'} hn b hb => by
  refine ⟨hn b hb, ?_, ?_, ?_, fun x c h => ?_, fun p hp => ?_⟩
  ·rw [e6]; exact Nat.ne_of_lt (Nat.lt_of_lt_of_le (fpl b hb) hszl)
  ·rw [← hX']
   intro hs
   rcases List.mem_cons.mp (I.stkSub b hs) with z | z
   ·exact (hf b hb).2.1 z
   ·exact (hf b hb).2.2.1 z
  ·rw [← hX']; exact .inl hb
  ·rw [e6] at h
   rcases hcl0 x c h with a | ⟨_, a, _⟩
   ·exact (hf b hb).2.2.2.2.1 x c a
   ·rw [a]
    have q1 := Nat.lt_of_lt_of_le (fpl b hb) hszl
    exact fun q => absurd (q ▸ q1) (Nat.not_lt.mpr (Nat.le_succ _))
  ·rw [← hX'] at hp; cases hp
 have loop : ∀ s₃ : Shared, Inv X' [] (iniV mp σ) (upd H₂ s₂.heap.objs.size (.lst [])) s₃ → tn 0 s₃.heap →
   codeAny (model X.prog X.w) X.A (.compLoop (.ListComp elt [⟨tg, iter, ifs, 0⟩] scope pos) 0 (.ref it) (.ref s₂.heap.objs.size) (compEnvC scope cl' H2.objs.size X.env)) (RR (.ref s₂.heap.objs.size) H2.objs.size) s₃ := by
  intro s₃ I₃' st3
  refine compLoop_gen (fun n s' => ∃ i σ' H', Inv X' [] σ' H' s' ∧ tn i s'.heap ∧ (∀ b ∈ fp, H' b = none) ∧ W i n σ' H') ?_ m0 ⟨0, _, _, I₃', st3, fun b hb => (hf3 b hb).1, w0⟩
  rintro n s4 ⟨i, σ4, H4, I4, st4, fr4, w4⟩
  rcases turn i n σ4 H4 w4 with ⟨stop, qn⟩ | ⟨go, N, hN, step⟩
  ·have q := T.done X' e1 e2 e3 e4 i [] s4 σ4 H4 (fun _ _ => False) I4 (stat fr4) st4 stop
   rw [e5] at q
   refine thn q fun r s5 hX11_ => ?_
   obtain ⟨hr, I5⟩ := hX11_
   subst hr
   have I6 : Inv X pins σ H4 s5 := by
    subst hX'
    exact I₃.call' (ch := fp) I5.os I5.base I5.hok I5.bare fun b hb => ⟨(hf3 b hb).2.2.2.1, (hf3 b hb).2.1, (hf3 b hb).2.2.2.2.1, (hf3 b hb).2.2.2.2.2⟩
   have hC : H4 H2.objs.size = none := by
    have := I5.free
    rw [e6] at this
    exact this
   have hns : ∃ m, s5.heap.Ns H2.objs.size m := by
    obtain ⟨m, hm, _⟩ := I5.loc
    rw [e6] at hm
    exact ⟨m, hm⟩
   exact fin _ _ s5 H4 I6 (I₃.fpOk (Nat.le_refl _) hC) hns qn
  ·have q := T.item X' e1 e2 e3 e4 i [] s4 σ4 H4 (fun _ _ => False) I4 (stat fr4) st4 go
   rw [e5] at q
   refine thn q fun r s5 hX21_ => ?_
   obtain ⟨u, hr, h5⟩ := hX21_
   subst hr
   refine thn h5 fun _ s6 hX31_ => ?_
   obtain ⟨x, H6, I6, r6, y6, st6, fr6⟩ := hX31_
   have I6' := I6.pinned (stat fr6) (T.obj _ _ st6)
   have g6 := hg' _ s6 σ4 H6 x u _ I6' r6 (step x H6 y6)
   rw [e1, e2, e5, e6, e7] at g6
   refine thn g6 fun _ s7 hX41_ => ?_
   obtain ⟨σ7, H7, I7, q7⟩ := hX41_
   have c7 := hc' _ s7 σ7 H7 _ I7 q7
   rw [e1, e2, e5, e6, e7] at c7
   refine thn c7 fun ok s8 hX51_ => ?_
   obtain ⟨H8, I8, q8⟩ := hX51_
   have again : ∀ {s9 : Shared} {σ9 : St} {H9 : Hp}, Inv X' ([] ++ pinsAt fp s6.heap) σ9 H9 s9 → N σ9 H9 → ∃ m, m < n ∧ ∃ i σ' H', Inv X' [] σ' H' s9 ∧ tn i s9.heap ∧ (∀ b ∈ fp, H' b = none) ∧ W i m σ' H' := fun {s9 σ9 H9} I9 n9 => by
    obtain ⟨m', hm, w9⟩ := hN σ9 H9 n9
    refine ⟨m', hm, i + 1, σ9, H9, I9.unpinned, T.keep _ _ _ st6 fun b hb o e => (I9.pin (b, o) (List.mem_append_right _ (List.mem_append_right _ (mem_pinsAt hb e)))).1, fun b hb => ?_, w9⟩
    obtain ⟨o, e, d⟩ := T.obj _ _ st6 b hb
    exact (I9.pin (b, o) (List.mem_append_right _ (List.mem_append_right _ (mem_pinsAt hb e)))).2.1
   cases ok with
   | false =>
    rw [if_neg Bool.false_ne_true] at q8 ⊢
    exact again I8 q8
   | true =>
    rw [if_pos rfl] at q8 ⊢
    have l8 := he' _ s8 σ7 H8 _ I8 q8
    rw [e1, e2, e5, e6, e7] at l8
    refine thn l8 fun y s9 hX61_ => ?_
    obtain ⟨z, H9, I9, r9, q9⟩ := hX61_
    have a9 := (mt_append (X := X')) _ s9 σ7 H9 (.ref s₂.heap.objs.size) [z] (.ref s₂.heap.objs.size) [y] _ I9 rfl (.cons r9 .nil) q9
    rw [e1, e2, e5, e7] at a9
    refine thn a9 fun _ s10 ⟨_, H10, I10, _, q10⟩ => again I10 q10
 refine codeAny_compStart_list (loop _ I₄ st4) ?_
 exact T.self X.A 0 _ _ _ st4 (loop _ I₄ st4)
theorem pe_comp {wi : TI} (hx : X.xe = fun _ _ => False) (hS : CompScope X N' scope mp) (hcalm : X.calm = true) (hi : PI X tg iter wi) (hg : ∀ cl C s₀ H₀ ex, PG (compCx X N' scope cl C s₀ H₀ ex) tg g) (hc : ∀ cl C s₀ H₀ ex, PIfs (compCx X N' scope cl C s₀ H₀ ex) ifs tc)
  (he : ∀ cl C s₀ H₀ ex, PE (compCx X N' scope cl C s₀ H₀ ex) elt te) (hs : ∀ x, foldedSetIterable iter X.env x = pure x := by intro _; rfl) :
  PE X (.ListComp elt [⟨tg, iter, ifs, 0⟩] scope pos) (fun σ H Q => wi σ H fun J H1 => tLoop J mp g tc te σ H1 Q) := by
 intro pins s σ H Q I h
 have hfr : ∀ y ∈ scope.names, y.2 = .free → ∃ c, X.env.cells.lookup y.1 = some c := fun y hy hk => I.ok.has y.1 (hS.free y hy hk)
 obtain ⟨cl, hcl, h1, h2⟩ := closure_ok hfr
 rw [eval_ListComp]
 refine wpAny_comprehension_free (use := none) rfl hs hcl hS.kind hS.loc (thn (hi pins s σ H _ I h) fun v s1 q1 => thn q1 fun itv s2 hX11_ => ?_)
 obtain ⟨it, fp, tn, J, H2, e, I2, T, st2, f2, q2⟩ := hX11_
 subst e
 refine comp_core (RR := fun acc C => compPost (model X.prog X.w) X.A X.xe none (EP X pins σ Q) acc C) hS hcalm hg hc he h1 h2 I2 T st2 f2 q2 fun p C s' H' I' fp' ns q' => ?_
 obtain ⟨m, hm⟩ := ns
 refine ⟨m, hm, fun h' sb => ⟨.ref p, H', ?_, rfl, q'⟩⟩
 exact I'.turned (t' := s'.toks) (fun b o hb e => (sb.2 b hb).trans e) fp'.1 fp'.2.1 fp'.2.2.2.1 fp'.2.2.2.2.1 fp'.2.2.2.2.2
theorem ps_set_comp {wi : TI} {i : Nat} {y : Str} {py spos : Pos} (hx : X.xe = fun _ _ => False) (hS : CompScope X N' scope mp) (hcalm : X.calm = true) (hi : PI X tg iter wi) (hg : ∀ cl C s₀ H₀ ex, PG (compCx X N' scope cl C s₀ H₀ ex) tg g)
  (hc : ∀ cl C s₀ H₀ ex, PIfs (compCx X N' scope cl C s₀ H₀ ex) ifs tc) (he : ∀ cl C s₀ H₀ ex, PE (compCx X N' scope cl C s₀ H₀ ex) elt te) (hN : X.N.Nodup) (hiN : X.N[i]? = some y) (hl : Loc X.env.scope y)
  (hsw : swapsWith (.ListComp elt [⟨tg, iter, ifs, 0⟩] scope pos) (some (.Name y py)) spos.line X.env = pure true) (hs : ∀ x, foldedSetIterable iter X.env x = pure x := by intro _; rfl)
  (hf : X.fn y = true ∨ X.env.scope.names.lookup y = some .local := by first | exact .inl rfl | exact .inr rfl | assumption) :
  PS X (.Assign [.Name y py] (.ListComp elt [⟨tg, iter, ifs, 0⟩] scope pos) spos) (tAsg (fun σ H Q => wi σ H fun J H1 => tLoop J mp g tc te σ H1 Q) (gName i)) := by
 intro pins s σ H D I h
 have hfr : ∀ y ∈ scope.names, y.2 = .free → ∃ c, X.env.cells.lookup y.1 = some c := fun y hy hk => I.ok.has y.1 (hS.free y hy hk)
 obtain ⟨cl, hcl, h1, h2⟩ := closure_ok hfr
 rw [exec_Assign_Name_used _ _ _ _ hsw]
 refine wpAny_bind (wpAny_standAt (wpAny_bind ?_))
 show wpAny _ X.A (do let _ ← comprehension (.ListComp elt [⟨tg, iter, ifs, 0⟩] scope pos) scope X.env _ (newList []) false (eval iter X.env) (some (assign (.Name y py) X.env))) _ _ s
 refine wpAny_bind (wpAny_mono (wpAny_comprehension_free (use := some (assign (.Name y py) X.env)) (Q := fun _ s' => SP X pins D .next s') rfl hs hcl hS.kind hS.loc
  (thn (hi pins s σ H _ I h) fun v s1 q1 => thn q1 fun itv s2 ⟨it, fp, tn, J, H2, e, I2, T, st2, f2, q2⟩ => ?_)) (fun _ s' hq => wpAny_pure (wpAny_pure hq)) fun _ _ e => e)
 subst e
 refine comp_core (RR := fun acc C => compPost (model X.prog X.w) X.A X.xe (some (assign (.Name y py) X.env)) (fun _ s' => SP X pins D .next s') acc C) hS hcalm hg hc he h1 h2 I2 T st2 f2 q2 fun p C s' H' I' fp' ns q' => ?_
 obtain ⟨m, hm⟩ := ns
 obtain ⟨oC, es, ep, hoC, rC⟩ := id hm
 show wpAny _ X.A (assign (.Name y py) X.env (.ref p)) _ _ _
 refine wpAny_assign_Name (store_ok2 I' hN hiN hl (v := .ref p) rfl (fun s'' I'' sb => ?_) hf)
 obtain ⟨a, sb, ha⟩ := sb
 have hCa : C ≠ a := by
  rcases ha with rfl | ha
  ·exact fp'.2.1
  ·exact fun z => fp'.2.2.2.2.1 y a ha z.symm
 refine ⟨m, ⟨oC, es, ep, (sb.2 C hCa).trans hoC, rC⟩, fun h3 sb3 => ⟨_, H', ?_, q'⟩⟩
 exact I''.turned (t' := s''.toks) (fun b o hb e => (sb3.2 b hb).trans e) fp'.1 fp'.2.1 fp'.2.2.2.1 fp'.2.2.2.2.1 fp'.2.2.2.2.2
end
end L2
namespace Fw
open PySem PySem.Spec PyProof.Rows L2
section
variable {K : PySem.W.Frag} {F F' F1 F2 H H' H1 H2 : Hp} {α α' α1 α2 : List Addr} {μ μ' : Store} {e : Slots} {σ : L2.St}
theorem slot_ini {mp : List (Option Nat)} {i : Nat} {x : SV} (h : slot (ini mp e) i = some x) : ∃ j, mp[i]? = some (some j) ∧ slot e j = some x := by
 unfold slot ini at h
 rw [List.getElem?_map] at h
 cases q : mp[i]? with
 | none => rw [q] at h; cases h
 | some o =>
  cases o with
  | none => rw [q] at h; cases h
  | some j =>
   rw [q] at h
   refine ⟨j, rfl, ?_⟩
   simp only [Option.map_some, Option.bind_some] at h
   cases z : slot e j with
   | none => rw [z] at h; cases h
   | some y => rw [z] at h; cases h; rfl
theorem Sim.ini (S : Sim K F α e μ σ H) (mp : List (Option Nat)) : Sim K F α (Fw.ini mp e) μ (iniV mp σ) H := by
 refine ⟨S.st, fun i x h => ?_, by unfold Fw.ini iniV; rw [List.length_map, List.length_map]⟩
 obtain ⟨j, hj, hx⟩ := slot_ini h
 obtain ⟨v, hv, ok⟩ := S.sl j x hx
 refine ⟨v, ?_, ok⟩
 unfold iniV
 rw [List.getElem?_map, hj]
 simp [hv]
theorem StOk.poke {p : Addr} {o : HO} (S : StOk K F α μ H) (h1 : F p = none) (h2 : p ∉ α) (n : NF o := by intro _ _ h; cases h) : StOk K F α μ (upd H p o) := by
 have na : ∀ {k : Nat} {a : Addr}, α[k]? = some a → a ≠ p := fun {k a} h q => h2 (by rw [← q]; exact List.mem_of_getElem? h)
 refine ⟨fun a z hz => ?_, S.len, S.nd, fun k a g => ?_, fun k b u a g1 g2 => ?_, S.one.upd n⟩
 ·rw [upd_ne (fun q => by subst q; rw [h1] at hz; cases hz)]; exact S.ext a z hz
 ·rw [upd_ne (na g)]; exact S.there k a g
 ·obtain ⟨c1, c2⟩ := S.cell k b u a g1 g2
  refine ⟨fun hb => ⟨(c1 hb).1, ?_⟩, c2⟩
  have d2 := (c1 hb).2
  cases u with
  | lst ts => obtain ⟨vs, w1, w2⟩ := d2; exact ⟨vs, by rw [upd_ne (na g2)]; exact w1, w2⟩
  | dct ts => obtain ⟨vs, w1, w2⟩ := d2; exact ⟨vs, by rw [upd_ne (na g2)]; exact w1, w2⟩
  | _ => exact d2.elim
theorem Ex.poke {p : Addr} {o : HO} (x : Ex F α H F' α' H') (h : H p = none) : Ex F α H F' α' (upd H' p o) := ⟨x.same, x.pre, fun b z h1 h2 h3 => by
 obtain ⟨g1, g2, g3⟩ := x.fr b z h1 h2 h3
 exact ⟨by rw [upd_ne (fun q => by subst q; rw [h] at h1; cases h1)]; exact g1, g2, g3⟩⟩
theorem Sim.back {e' : Slots} (S : Sim K F α e' μ σ H) (hl : e.length = e'.length) (h : ∀ j x, slot e j = some x → slot e' j = some x) : Sim K F α e μ σ H :=
 ⟨S.st, fun i x g => S.sl i x (h i x g), by rw [hl]; exact S.len⟩
end
section
variable {X : Cx} {elt iter tg : Expr} {ifs : List Expr} {scope : Scope} {pos : Pos} {N' : List Str} {mp : List (Option Nat)} {di : DI} {b : BD} {dc d : D}
noncomputable def Leaves (mp : List (Option Nat)) (b : BD) : Prop := ∀ t e e1, b t (ini mp e) = some e1 → (ini mp e).length = e1.length ∧ ∀ j x, slot (ini mp e) j = some x → slot e1 j = some x
theorem slot_set_ne {e : Slots} {i j : Nat} {x : SV} (h : i ≠ j) : slot (e.set i (some x)) j = slot e j := by
 unfold slot
 rw [List.getElem?_set_ne h]
theorem leaves_name {i : Nat} (h : mp[i]? = some none) : Leaves mp (bName i) := fun t e e1 hb => by
 cases hb
 refine ⟨by rw [List.length_set], fun j x hx => ?_⟩
 obtain ⟨k, hk, _⟩ := slot_ini hx
 rw [slot_set_ne (fun q => by subst q; rw [h] at hk; cases hk)]; exact hx
theorem leaves_pair {i i' : Nat} (h : mp[i]? = some none) (h' : mp[i']? = some none) : Leaves mp (bTup [i, i']) := fun t e e1 hb => by
 cases t with
 | tup ts =>
  unfold bTup at hb
  simp only at hb
  by_cases hl : ts.length = [i, i'].length
  ·rw [if_pos hl] at hb
   match ts, hl with
   | [t1, t2], _ =>
    cases hb
    refine ⟨by simp, fun j x hx => ?_⟩
    obtain ⟨k, hk, _⟩ := slot_ini hx
    have n1 : i ≠ j := fun q => by subst q; rw [h] at hk; cases hk
    have n2 : i' ≠ j := fun q => by subst q; rw [h'] at hk; cases hk
    simp only [List.zip_cons_cons, List.zip_nil_right, List.foldl_cons, List.foldl_nil]
    rw [slot_set_ne n2, slot_set_ne n1]; exact hx
  ·rw [if_neg hl] at hb; cases hb
 | _ => cases hb
theorem pifs_true {X' : Cx} : PIfs X' [] (tDT X' (dC (.bl true))) := fun pins s σ H Q I hX11_ => by
 obtain ⟨F, α, e, μ, S, h⟩ := hX11_
 obtain ⟨b, hb, h⟩ := h
 cases hb
 exact pifs_nil pins s σ H Q I (h H F α Ex.refl S)
theorem pifs_test {X' : Cx} {c : Expr} (h : CT X' c dc) : PIfs X' [c] (tDT X' dc) := pifs_one h
noncomputable def oD (K : PySem.W.Frag) (d : D) : TE := fun σ H Q => ∃ F α e μ x μ', Sim K F α e μ σ H ∧ d e μ = .ok x μ' ∧ Post K F α H e σ Q x μ'
noncomputable def oDT (K : PySem.W.Frag) (d : D) : TT := fun σ H Q => ∃ F α e μ b μ', Sim K F α e μ σ H ∧ d e μ = .ok (.val (.bl b)) μ' ∧
 ∀ H' F' α', Ex F α H F' α' H' → Sim K F' α' e μ' σ H' → Q b H'
theorem oD_of {X' : Cx} {σ : L2.St} {H : Hp} {Q : VK} (h : oD X'.K d σ H Q) : tD X' d σ H Q := by
 obtain ⟨F, α, e, μ, x, μ', S, h, p⟩ := h
 exact ⟨F, α, e, μ, S, by rw [h]; exact p⟩
theorem oDT_of {X' : Cx} {σ : L2.St} {H : Hp} {Q : Bool → Hp → Prop} (h : oDT X'.K d σ H Q) : tDT X' d σ H Q := by
 obtain ⟨F, α, e, μ, b, μ', S, h, p⟩ := h
 exact ⟨F, α, e, μ, S, by rw [h]; exact ⟨b, rfl, p⟩⟩
inductive CIv (K : PySem.W.Frag) (same : Store → Prop) (items : List T) (b : BD) (dc d : D) (e0 : Slots) (us : List T) (μ' : Store) (F1 : Hp) (α1 : List Addr) (H1 : Hp) (p : Addr) (i : Nat) (σ' : L2.St) (Hc : Hp) : Prop
 | mk (F2 : Hp) (α2 : List Addr) (μ3 : Store) (done rest : List T) (vs : List V) (x2 : Ex F1 α1 H1 F2 α2 Hc) (S2 : Sim K F2 α2 e0 μ3 σ' Hc) (n1 : F2 p = none) (n2 : p ∉ α2) (hv : Hc p = some (.lst vs)) (hr : RepL K F2 done vs) (hdl : done.length ≤ i) (hL : compL same b dc d e0 (items.drop i) μ3 = .ok rest μ') (hu : us = done ++ rest)
theorem comp_read {σ : L2.St} {H : Hp} {Q : VK} (hb : Leaves mp b) (h : tF X (dComp di mp b dc d) σ H Q) : tDI X di σ H fun J H1 => tLoop J mp (tBd X.K b) (oDT X.K dc) (oD X.K d) σ H1 Q := by
 obtain ⟨F, α, e, μ, S, h⟩ := h
 refine ⟨F, α, e, μ, S, (R.wp_bind h).mono (fun W μ1 h J H1 F1 α1 x1 S1 ok => ?_) fun _ _ h => h⟩
 cases hL : (compL W.same b dc d (ini mp e) W.items μ1).calm with
 | err c μ' => cases q : compL W.same b dc d (ini mp e) W.items μ1 <;> rw [q] at hL <;> cases hL
 | bad => rw [hL] at h; exact h.elim
 | ok us μ' =>
 rw [hL] at h
 have hL := R.calm_eq hL
 rw [R.bind_ok] at h
 by_cases hz : W.items.length ≤ szL
 ·rw [if_pos hz] at h
  obtain ⟨t, et, post⟩ := h
  cases et
  intro p hp
  refine ⟨fun i m σ' Hc => m = W.items.length - i ∧ i ≤ W.items.length ∧ CIv X.K W.same W.items b dc d (ini mp e) us μ' F1 α1 H1 p i σ' Hc,
   ⟨_, rfl, Nat.zero_le _, .mk F1 α1 μ1 [] us [] (Ex.lay hp) ((S1.ini mp).of (Same.refl _) (List.prefix_refl _) (S1.st.lay hp)) (S1.st.ext.free hp) (not_mem_of_none S1.st hp) upd_same RepL.nil' (Nat.zero_le _) hL rfl⟩, ?_⟩
  rintro i m σ2 H2 ⟨rfl, hi', hC⟩
  obtain ⟨F2, α2, μ3, done, rest, vs, x2, S2, n1, n2, hv, hr, hdl, hL, hu⟩ := hC
  by_cases hlt : i < W.items.length
  ·rw [List.drop_eq_getElem_cons hlt] at hL
   unfold compL at hL
   by_cases hs : W.same μ3
   ·rw [if_pos hs] at hL
    obtain ⟨g1, g2⟩ := ok F2 α2 μ3 H2 x2.same x2.pre S2.st hs
    obtain ⟨go, yl⟩ := g1 i W.items[i] (by simp [hlt])
    cases hb' : b W.items[i] (ini mp e) with
    | none => simp only [hb'] at hL; cases hL
    | some e3 =>
     simp only [hb'] at hL
     obtain ⟨y0, μ4, hy, hL⟩ := R.bind_eq_ok hL
     have hy := R.calm_eq hy
     obtain ⟨k, μ5, hk, hK⟩ := R.bind_eq_ok hL
     obtain ⟨hk1, hk2⟩ := R.lift_eq_ok hk
     subst hk2
     have ek := asB_eq hk1
     rw [ek] at hy
     clear hL hk hk1 ek
     obtain ⟨hl3, hb3⟩ := hb _ _ _ hb'
     refine .inr ⟨go, CIv X.K W.same W.items b dc d (ini mp e) us μ' F1 α1 H1 p (i + 1), fun σ' H' q => ⟨W.items.length - (i + 1), by lia, rfl, hlt, q⟩, fun x H3 yy => ?_⟩
     obtain ⟨F3, gr, rp⟩ := yl x H3 yy
     have x3 : Ex F2 α2 H2 F3 α2 H3 := gr.ex S2.st.ext
     refine ⟨F3, α2, ini mp e, μ3, W.items[i], e3, S2.grow gr, rp, hb', fun σ4 S4 => ?_⟩
     refine ⟨F3, α2, e3, μ3, k, μ4, S4, hy, fun H5 F5 α5 x5 S5 => ?_⟩
     obtain ⟨v3, n3, m3⟩ := x3.fr p _ hv n1 n2
     obtain ⟨v5, n5, m5⟩ := x5.fr p _ v3 n3 m3
     cases k with
     | false =>
      rw [if_neg Bool.false_ne_true] at hK ⊢
      exact .mk F5 α5 μ4 done rest vs (x2.trans (x3.trans x5)) (S5.back hl3 hb3) n5 m5 v5 (RepL.mono (x3.same.trans x5.same) _ _ hr) (Nat.le_succ_of_le hdl) hK hu
     | true =>
      rw [if_pos rfl] at hK ⊢
      obtain ⟨y2, μ6, hd, hK⟩ := R.bind_eq_ok hK
      have hd := R.calm_eq hd
      obtain ⟨u, μ7, hfz, hK⟩ := R.bind_eq_ok hK
      obtain ⟨us', μ8, hL2, hK⟩ := R.bind_eq_ok hK
      cases hK
      refine ⟨F5, α5, e3, μ4, y2, μ6, S5, hd, fun v H6 F6 α6 x6 S6 o6 => ?_⟩
      obtain ⟨v6, n6, m6⟩ := x6.fr p _ v5 n5 m5
      obtain ⟨F7, s7, ne7, S7, r7⟩ := frz_ok S6.st o6 hfz
      have hvl : vs.length < sizeLine := by
       have := hr.length
       have hz' : W.items.length ≤ sizeLine := hz
       lia
      have n7 : F7 p = none := by rw [ne7 p m6]; exact n6
      have x7 : Ex F1 α1 H1 F7 α6 H6 := x2.trans (x3.trans (x5.trans (x6.trans (Ex.of_ne s7 ne7))))
      refine ⟨p, vs, v, rfl, rfl, v6, hvl, .mk F7 α6 μ7 (done ++ [u]) us' (vs ++ [v]) (x7.poke hp) ?_ n7 m6 upd_same ?_ ?_ hL2 ?_⟩
      ·exact ((S6.back hl3 hb3).of s7 (List.prefix_refl _) S7).of (Same.refl _) (List.prefix_refl _) (S7.poke n7 m6)
      ·exact (RepL.mono (x3.same.trans (x5.same.trans (x6.same.trans s7))) _ _ hr).append (RepL.one r7)
      ·rw [List.length_append, List.length_singleton]; lia
      ·rw [hu, List.append_assoc]; rfl
   ·rw [if_neg hs] at hL; cases hL
  ·have e1 : i = W.items.length := by lia
   subst e1
   rw [List.drop_length] at hL
   unfold compL at hL
   by_cases hs : W.same μ3
   ·rw [if_pos hs] at hL
    cases hL
    obtain ⟨g1, g2⟩ := ok F2 α2 _ H2 x2.same x2.pre S2.st hs
    refine .inl ⟨g2, post p H2 F2 α2 (x1.trans x2) (S1.of x2.same x2.pre S2.st) (x1.was S1.st hp) n1 n2 ⟨vs, hv, ?_⟩⟩
    rw [hu, List.append_nil]; exact hr
   ·rw [if_neg hs] at hL; cases hL
 ·rw [if_neg hz] at h; exact h.elim
theorem dComp_val {e : Slots} {μ μ' : Store} {x : SV} (h : dComp di mp b dc d e μ = .ok x μ') : ∃ t, x = .val t := by
 unfold dComp at h
 obtain ⟨W, μ1, hW, h⟩ := R.bind_eq_ok h
 obtain ⟨us, μ2, hL, h⟩ := R.bind_eq_ok h
 by_cases hz : W.items.length ≤ szL
 ·rw [if_pos hz] at h; cases h; exact ⟨_, rfl⟩
 ·rw [if_neg hz] at h; cases h
theorem PIfs.imp {X' : Cx} {cs : List Expr} {t t' : TT} (h : PIfs X' cs t) (i : ∀ σ H Q, t' σ H Q → t σ H Q) : PIfs X' cs t' := fun pins s σ H Q I q => h pins s σ H Q I (i σ H Q q)
theorem cf_comp (hx : X.xe = fun _ _ => False) (hS : CompScope X N' scope mp) (hcalm : X.calm = true) (hb : Leaves mp b) (hi : CI X tg iter di) (hg : ∀ cl C s₀ H₀ ex, CB (compCx X N' scope cl C s₀ H₀ ex) tg b)
  (hc : ∀ cl C s₀ H₀ ex, PIfs (compCx X N' scope cl C s₀ H₀ ex) ifs (tDT (compCx X N' scope cl C s₀ H₀ ex) dc)) (he : ∀ cl C s₀ H₀ ex, CE (compCx X N' scope cl C s₀ H₀ ex) elt d) (hs : ∀ x, foldedSetIterable iter X.env x = pure x := by intro _; rfl) :
  CF X (.ListComp elt [⟨tg, iter, ifs, 0⟩] scope pos) (dComp di mp b dc d) :=
 ⟨PE.imp (pe_comp hx hS hcalm hi (g := tBd X.K b) hg (fun cl C s₀ H₀ ex => PIfs.imp (hc cl C s₀ H₀ ex) fun σ H Q q => oDT_of (X' := compCx X N' scope cl C s₀ H₀ ex) q) (te := oD X.K d) (fun cl C s₀ H₀ ex => PE.imp (he cl C s₀ H₀ ex) fun σ H Q q => oD_of (X' := compCx X N' scope cl C s₀ H₀ ex) q) hs) fun σ H Q q => comp_read hb q, fun _ _ _ _ h => dComp_val h⟩
theorem cs_set_comp (i : Nat) {y : Str} {py spos : Pos} (hx : X.xe = fun _ _ => False) (hS : CompScope X N' scope mp) (hcalm : X.calm = true) (hb : Leaves mp b) (hi : CI X tg iter di) (hg : ∀ cl C s₀ H₀ ex, CB (compCx X N' scope cl C s₀ H₀ ex) tg b)
  (hc : ∀ cl C s₀ H₀ ex, PIfs (compCx X N' scope cl C s₀ H₀ ex) ifs (tDT (compCx X N' scope cl C s₀ H₀ ex) dc)) (he : ∀ cl C s₀ H₀ ex, CE (compCx X N' scope cl C s₀ H₀ ex) elt d) (hN : X.N.Nodup) (hiN : X.N[i]? = some y := by rfl) (hl : Loc X.env.scope y := by first | exact Or.inl rfl | exact Or.inr rfl)
  (hsw : swapsWith (.ListComp elt [⟨tg, iter, ifs, 0⟩] scope pos) (some (.Name y py)) spos.line X.env = pure true := by rfl) (hs : ∀ x, foldedSetIterable iter X.env x = pure x := by intro _; rfl)
  (hf : X.fn y = true ∨ X.env.scope.names.lookup y = some .local := by first | exact .inl rfl | exact .inr rfl | assumption) :
  PS X (.Assign [.Name y py] (.ListComp elt [⟨tg, iter, ifs, 0⟩] scope pos) spos) (fun D σ H => tF X (dComp di mp b dc d) σ H fun v H1 => D.nx (σ.set i (some v)) H1) :=
 PS.imp (ps_set_comp hx hS hcalm hi (g := tBd X.K b) hg (fun cl C s₀ H₀ ex => PIfs.imp (hc cl C s₀ H₀ ex) fun σ H Q q => oDT_of (X' := compCx X N' scope cl C s₀ H₀ ex) q) (te := oD X.K d) (fun cl C s₀ H₀ ex => PE.imp (he cl C s₀ H₀ ex) fun σ H Q q => oD_of (X' := compCx X N' scope cl C s₀ H₀ ex) q) hN hiN hl hsw hs hf) fun D σ H q => comp_read hb q
theorem cs_of_setV {st : Stmt} {i : Nat} {da : D} (h : PS X st (fun D σ H => tF X da σ H fun v H1 => D.nx (σ.set i (some v)) H1)) (hv : ∀ e μ x μ', da e μ = .ok x μ' → ∃ t, x = .val t) : CS X st (sSet i da) :=
 PS.imp h fun D σ H ⟨F, α, e, μ, S, h⟩ => ice_read hv ⟨F, α, e, μ, S, (PostS.toS h).mono (fun x μ1 h v H1 F1 α1 x1 S1 o1 => h _ H1 F1 α1 x1 (S1.set o1)) fun _ _ h => h⟩
end
noncomputable def spD (K : PySem.W.Frag) (fn : FN) (n : Nat) : Sp := fun vs H Q _ => vs.length = n ∧ ∃ F α μ xs r μ', StOk K F α μ H ∧ Paired (fun v x => SvOk K F α v x) vs xs ∧ fn xs μ = .ok r μ' ∧
 ∀ v H' F' α', Ex F α H F' α' H' → StOk K F' α' μ' H' → SvOk K F' α' v r → Q v H'
section
variable {X : Cx} {f : Addr} {fd : FuncData} {ps : List Str} {x : Str} {p pos : Pos} {e : Expr} {es : List Expr} {ds : List D} {fn : FN} {k : Nat}
theorem call_read {σ : L2.St} {H : Hp} {Q : VK} (hl : ds.length = ps.length) (h : tD X (dCall (cal fn) ds) σ H Q) : tCall (spD X.K fn ps.length) [] E0 (tDA X ds) σ H Q := by
 obtain ⟨F, α, e, μ, S, h⟩ := h
 refine ⟨F, α, e, μ, S, (dArgs_wp_len (R.wp_bind h)).mono (fun xs μ1 hX11_ vs H1 F1 α1 x1 S1 o1 => ?_) fun _ _ h => h⟩
 obtain ⟨hn, h⟩ := hX11_
 show spD X.K fn ps.length (vs ++ []) H1 Q E0
 rw [List.append_nil]
 have h : ((fn xs μ1).calm).wp (Post X.K F α H e σ Q) (XPost X F α H e) := h
 cases q : fn xs μ1 with
 | err c μ2 => rw [q] at h; exact h.elim
 | bad => rw [q] at h; exact h.elim
 | ok r μ2 =>
  rw [q] at h
  exact ⟨by rw [o1.length, hn, hl], F1, α1, μ1, xs, r, μ2, S1.st, o1, q, fun v H2 F2 α2 x2 S2 o2 => h v H2 F2 α2 (x1.trans x2) (S1.of x2.same x2.pre S2) o2⟩
theorem ce_call (G : FnOk X.prog X.w X.K X.mg X.base CX0 k f fd ps (spD X.K fn ps.length)) (hr : Room k X.A) (hm : X.mg x = some (.ref f)) (hk : PySem.W.keepIn X.K (.ref f) = true) (hb : Binds X.K fd ps []) (ha : CA X (e :: es) ds)
  (hl : ds.length = ps.length := by rfl) (hg : Gl X x := by rfl) (hdb : (x == ("__debug__" : Str)) = false := by decide) (he : starEach (e :: es) X.env = (false, eval e X.env) :: starEach es X.env := by rfl) (hpl : (backTo pos (starEach es X.env)).any (·.1) = false := by rfl) :
  CE X (.Call (.Name x p) (e :: es) [] pos) (dCall (cal fn) ds) := PE.imp (pe_call G hr hg hm hk hb .nil pass0 ha hdb he hpl) fun σ H Q q => call_read hl q
theorem ce_blt1 {id : String} {r : List V → Hp → VK → Prop} {g : T → Option T} {d : D} (hc : CallR X (.builtin id) r) (hs : CallSem1 X.K r g) (hm : X.mg x = none) (hv : bootBuiltins x = some (.builtin id)) (ha : CE X e d) (hg : Gl X x := by rfl) (hn : x ≠ "__name__" := by decide)
  (hdb : (x == ("__debug__" : Str)) = false := by decide) (hs1 : starEach [e] X.env = (false, eval e X.env) :: starEach [] X.env := by rfl) (hpl : (backTo pos (starEach [] X.env)).any (·.1) = false := by rfl) : CE X (.Call (.Name x p) [e] [] pos) (dUn g d) :=
 PE.imp (pe_callB hc hg hm hv (ca_cons ha ca_nil hs1) hn hdb hs1 hpl) (call1 hs)
theorem ce_ty1 {id : String} {r : List V → Hp → VK → Prop} {g : T → Option T} {d : D} (hc : CallR X (.type id) r) (hs : CallSem1 X.K r g) (hm : X.mg x = none) (hv : bootBuiltins x = some (.type id)) (ha : CE X e d) (hg : Gl X x := by rfl) (hn : x ≠ "__name__" := by decide)
  (hdb : (x == ("__debug__" : Str)) = false := by decide) (hs1 : starEach [e] X.env = (false, eval e X.env) :: starEach [] X.env := by rfl) (hpl : (backTo pos (starEach [] X.env)).any (·.1) = false := by rfl) : CE X (.Call (.Name x p) [e] [] pos) (dUn g d) :=
 PE.imp (pe_callTy hc hg hm hv (ca_cons ha ca_nil hs1) hn hdb hs1 hpl) (call1 hs)
theorem cf_ty1 {id : String} {r : List V → Hp → VK → Prop} {g : T → Option T} {d : D} (hc : CallR X (.type id) r) (hs : CallSemF X.K r g) (hm : X.mg x = none) (hv : bootBuiltins x = some (.type id)) (ha : CE X e d) (hg : Gl X x := by rfl) (hn : x ≠ "__name__" := by decide)
  (hdb : (x == ("__debug__" : Str)) = false := by decide) (hs1 : starEach [e] X.env = (false, eval e X.env) :: starEach [] X.env := by rfl) (hpl : (backTo pos (starEach [] X.env)).any (·.1) = false := by rfl) : CF X (.Call (.Name x p) [e] [] pos) (dUn g d) :=
 ⟨PE.imp (pe_callTy hc hg hm hv (ca_cons ha ca_nil hs1) hn hdb hs1 hpl) (call1F hs), fun _ _ _ _ h => dUn_val h⟩
end
inductive Md where
 | V | D | K
noncomputable def Md.fn : Md → Nat → DS → FN
 | .V => fnV
 | .D => fnD
 | .K => fnK
section
variable {P : Program} {w : World} {K : PySem.W.Frag} {mg : Str → Option Value} {base : Heap}
theorem sim_start {F H : Hp} {α : List Addr} {μ : Store} {N : List Str} {vs : List V} {xs : List SV} (S : StOk K F α μ H) (o : Paired (fun v x => SvOk K F α v x) vs xs) : Sim K F α (starts N.length xs) μ (L2.start N vs) H := by
 unfold starts
 have hl := o.length
 refine ⟨S, fun i x h => ?_, by unfold L2.start; simp [hl]⟩
 have get : ∀ {vs : List V} {xs : List SV} {i : Nat} {x : SV}, Paired (fun v x => SvOk K F α v x) vs xs → xs[i]? = some x → ∃ v, vs[i]? = some v ∧ SvOk K F α v x := fun {vs} => by
  intro xs i x o
  induction o generalizing i with
  | nil => intro e; simp at e
  | cons r _ ih =>
   intro e
   cases i with
   | zero => simp at e; subst e; exact ⟨_, rfl, r⟩
   | succ i =>
    obtain ⟨v, h1, h2⟩ := ih (i := i) (by simpa using e)
    exact ⟨v, by simpa using h1, h2⟩
 unfold slot at h
 by_cases hi : i < xs.length
 ·rw [List.getElem?_append_left (by simpa using hi), List.getElem?_map] at h
  cases q : xs[i]? with
  | none => rw [q] at h; cases h
  | some y =>
   rw [q] at h
   cases h
   obtain ⟨v, h1, h2⟩ := get o q
   refine ⟨v, ?_, h2⟩
   unfold L2.start
   rw [List.getElem?_append_left (by simpa [hl] using hi), List.getElem?_map, h1]
   rfl
 ·rw [List.getElem?_append_right (by simpa using hi), List.getElem?_replicate] at h
  split at h <;> rename_i q
  ·split at q <;> cases q
  ·cases h
theorem fn_ok {x qual : Str} {st : Stmt} {f : Addr} {fd : FuncData} {N ps : List Str} {k : Nat} {d : DS} (md : Md) (F : Fun K x qual st f fd) (S : FnScope N ps (defScope st))
  (hb : ∀ (cdv : Value) (A : Around) (outer : List Env) (s : Shared) (H : Hp) (E : XK), Room k (A.deeper (envOfC qual (defScope st) s.heap.objs.size f cdv)) → CSs (cxOf CX0 P w K mg base N qual (defScope st) f cdv A outer s H E).nox (defBody st) d) :
  FnOk P w K mg base CX0 (k + 1) f fd ps (spD K (md.fn N.length d) ps.length) := by
 refine F.ok S (fun vs H Q E h => h.1) fun cdv A outer s H vs Q E hr h => ⟨_, hb cdv A outer s H E hr, ?_⟩
 obtain ⟨hl, F0, α, μ, xs, r, μ', S0, o, h, post⟩ := h
 refine ⟨F0, α, _, μ, sim_start S0 o, ?_⟩
 have fin : ∀ {y : SV} {μ1 : Store} {v : V} {H1 F1 : Hp} {α1 : List Addr}, (match md with
   | .V => ice μ.length y μ1
   | .D => gc μ.length y μ1
   | .K => .ok y μ1) = .ok r μ' → Ex F0 α H F1 α1 H1 → StOk K F1 α1 μ1 H1 → SvOk K F1 α1 v y → Q v H1 := fun {y μ1 v H1 F1 α1} hg x1 S1 o1 => by
  cases md with
  | V =>
   obtain ⟨F2, g1, g2, g3, g4⟩ := ice_ok S0.len x1.pre S1 o1 hg
   exact post v H1 F2 α ⟨x1.same.trans g1, List.prefix_refl _, fun b z h1 h2 h3 => let ⟨a1, a2, a3⟩ := x1.fr b z h1 h2 h3; ⟨a1, by rw [g2 b a3]; exact a2, h3⟩⟩ g3 g4
  | D =>
   obtain ⟨γ, g1, g2, g3, g4⟩ := gc_ok S0.len x1.pre S1 o1 hg
   exact post v H1 F1 γ ⟨x1.same, g1, fun b z h1 h2 h3 => let ⟨a1, a2, a3⟩ := x1.fr b z h1 h2 h3; ⟨a1, a2, fun hm => a3 (g2 b hm)⟩⟩ g3 g4
  | K =>
   cases hg
   exact post v H1 F1 α1 x1 S1 o1
 cases q : d (starts N.length xs) μ with
 | rt y μ1 => exact fun v H1 F1 α1 x1 S1 o1 => fin (by cases md <;> (simp only [Md.fn, fnV_is, fnD_is, fnK_is, q] at h; exact h)) x1 S1 o1
 | nx e1 μ1 => exact fun σ1 H1 F1 α1 x1 S1 => fin (y := .val .non) (by cases md <;> (simp only [Md.fn, fnV_is, fnD_is, fnK_is, q] at h; exact h)) x1 S1.st (Rep.non' (K := K) (F := F1))
 | bk e1 μ1 => cases md <;> (simp only [Md.fn, fnV_is, fnD_is, fnK_is, q] at h; cases h)
 | ct e1 μ1 => cases md <;> (simp only [Md.fn, fnV_is, fnD_is, fnK_is, q] at h; cases h)
 | err c e1 μ1 => cases md <;> (simp only [Md.fn, fnV_is, fnD_is, fnK_is, q] at h; cases h)
 | bad => cases md <;> (simp only [Md.fn, fnV_is, fnD_is, fnK_is, q] at h; cases h)
end
end Fw
namespace Fw
open PySem
section
variable {α : Type} {μ : List α} {a b c x : α} {l : List α}
@[simp] theorem st_get0 : (μ ++ a :: l)[μ.length]? = some a := by simp
@[simp] theorem st_get1 : (μ ++ a :: b :: l)[μ.length + 1]? = some b := by simp [List.getElem?_append_right]
@[simp] theorem st_set0 : (μ ++ a :: l).set μ.length x = μ ++ x :: l := by simp
@[simp] theorem st_set1 : (μ ++ a :: b :: l).set (μ.length + 1) x = μ ++ a :: x :: l := by simp [List.set_append]
@[simp] theorem st_take : (μ ++ l).take μ.length = μ := by simp
end
@[simp] theorem rd_cel (μ : Store) (k : Nat) : rd μ (.cel k) = (μ[k]?).map (·.2) := (rfl)
theorem frz_at {μ : Store} {k : Nat} {b : Bool} {t : T} (h : μ[k]? = some (b, t)) : frz (.cel k) μ = .ok t (μ.set k (false, t)) := by
 unfold frz; simp only [h]
@[simp] theorem frz_st0 (μ l : Store) (b : Bool) (t : T) : frz (.cel μ.length) (μ ++ (b, t) :: l) = .ok t (μ ++ (false, t) :: l) := by
 rw [frz_at (b := b) (t := t) (by simp)]; simp
@[simp] theorem frz_st1 (μ l : Store) (a : Bool × T) (b : Bool) (t : T) : frz (.cel (μ.length + 1)) (μ ++ a :: (b, t) :: l) = .ok t (μ ++ a :: (false, t) :: l) := by
 rw [frz_at (b := b) (t := t) (by simp)]; simp
@[simp] theorem ice_val (n : Nat) (t : T) (μ : Store) : ice n (.val t) μ = .ok (.val t) (μ.take n) := (rfl)
@[simp] theorem ice_st0 (μ l : Store) (b : Bool) (t : T) : ice μ.length (.cel μ.length) (μ ++ (b, t) :: l) = .ok (.val t) μ := by unfold ice; simp
@[simp] theorem gc_st0 (μ l : Store) (a : Bool × T) : gc μ.length (.cel μ.length) (μ ++ a :: l) = .ok (.cel μ.length) (μ ++ [a]) := by unfold gc; simp
@[simp] theorem lsts_st0 (μ l : Store) (b : Bool) (ts : List T) : lsts (.cel μ.length) (μ ++ (b, .lst ts) :: l) = some () := lsts_at (b := b) (ts := ts) (by simp)
@[simp] theorem lsts_st1 (μ l : Store) (a : Bool × T) (b : Bool) (ts : List T) : lsts (.cel (μ.length + 1)) (μ ++ a :: (b, .lst ts) :: l) = some () := lsts_at (b := b) (ts := ts) (by simp)
theorem append_at {μ : Store} {k : Nat} {ts : List T} {t : T} (h : μ[k]? = some (true, .lst ts)) (hl : ts.length < szL) : appendAt (.cel k) t μ = some (μ.set k (true, .lst (ts ++ [t]))) := by
 unfold appendAt; simp only [h]; rw [if_pos hl]
theorem append_st0 (μ l : Store) (ts : List T) (t : T) (hl : ts.length < szL) : appendAt (.cel μ.length) t (μ ++ (true, .lst ts) :: l) = some (μ ++ (true, .lst (ts ++ [t])) :: l) := by
 rw [append_at (ts := ts) (by simp) hl]; simp
theorem append_st1 (μ l : Store) (a : Bool × T) (ts : List T) (t : T) (hl : ts.length < szL) : appendAt (.cel (μ.length + 1)) t (μ ++ a :: (true, .lst ts) :: l) = some (μ ++ a :: (true, .lst (ts ++ [t])) :: l) := by
 rw [append_at (ts := ts) (by simp) hl]; simp
theorem setAt_at {μ : Store} {k : Nat} {ts : List T} {t : T} {i : Int} (h : μ[k]? = some (true, .lst ts)) (h0 : 0 ≤ i) (h1 : i < ts.length) : setAt (.cel k) (.int i) t μ = some (μ.set k (true, .lst (ts.set i.toNat t))) := by
 unfold setAt; simp only [h]; unfold ixN; rw [if_pos h0, if_pos h1]; rfl
@[simp] theorem starts_is (m : Nat) (xs : List SV) : starts m xs = xs.map some ++ List.replicate (m - xs.length) none := (rfl)
theorem atI_nat {α : Type} {xs : List α} {i : Int} (h0 : 0 ≤ i) : atI xs i = xs[i.toNat]? := by
 unfold atI ixN
 rw [if_pos h0]
 by_cases h : i < xs.length
 ·rw [if_pos h]; rfl
 ·rw [if_neg h]
  exact (List.getElem?_eq_none (by lia)).symm
theorem atI_map {α β : Type} {xs : List α} {f : α → β} {i : Int} (h0 : 0 ≤ i) (h1 : i < xs.length) : atI (xs.map f) i = some (f (xs[i.toNat]'(by lia))) := by
 rw [atI_nat h0, List.getElem?_map, List.getElem?_eq_getElem (by lia)]; rfl
@[simp] theorem atI_zero {α : Type} (x : α) (xs : List α) : atI (x :: xs) 0 = some x := by rw [atI_nat (by lia)]; rfl
@[simp] theorem atI_one {α : Type} (x y : α) (xs : List α) : atI (x :: y :: xs) 1 = some y := by rw [atI_nat (by lia)]; rfl
@[simp] theorem atI_two {α : Type} (x y z : α) (xs : List α) : atI (x :: y :: z :: xs) 2 = some z := by rw [atI_nat (by lia)]; rfl
noncomputable def irange (lo : Int) (n : Nat) : List Int := (List.range n).map fun (k : Nat) => lo + (k : Int)
theorem intsT_eq (lo : Int) (n : Nat) : intsT lo n = (irange lo n).map T.int := by
 unfold irange
 induction n generalizing lo with
 | zero => rfl
 | succ n ih =>
  rw [intsT, ih (lo + 1), List.range_succ_eq_map]
  simp only [List.map_cons, List.map_map]
  congr 1
  ·simp
  ·apply List.map_congr_left
   intro k _
   simp only [Function.comp]
   congr 1
   lia
@[simp] theorem irange_length (lo : Int) (n : Nat) : (irange lo n).length = n := by simp [irange]
theorem mem_irange {lo : Int} {n : Nat} {k : Int} : k ∈ irange lo n ↔ lo ≤ k ∧ k < lo + n := by
 unfold irange
 rw [List.mem_map]
 constructor
 ·rintro ⟨j, hj, rfl⟩
  rw [List.mem_range] at hj
  lia
 ·rintro ⟨h1, h2⟩
  exact ⟨(k - lo).toNat, by rw [List.mem_range]; lia, by lia⟩
theorem irange_get {lo : Int} {n i : Nat} {k : Int} (h : (irange lo n)[i]? = some k) : i < n ∧ k = lo + i := by
 unfold irange at h
 rw [List.getElem?_map] at h
 by_cases hi : i < n
 ·rw [List.getElem?_range hi] at h
  cases h
  exact ⟨hi, rfl⟩
 ·rw [List.getElem?_eq_none (by simpa using hi)] at h
  cases h
theorem intsT_at {lo : Int} {n i : Nat} {t : T} (h : (intsT lo n)[i]? = some t) : i < n ∧ t = .int (lo + i) := by
 rw [intsT_eq, List.getElem?_map] at h
 cases q : (irange lo n)[i]? with
 | none => rw [q] at h; cases h
 | some k =>
  rw [q] at h
  cases h
  obtain ⟨h1, rfl⟩ := irange_get q
  exact ⟨h1, rfl⟩
theorem intsT_k {lo : Int} {n i : Nat} {t : T} (h : (intsT lo n)[i]? = some t) : ∃ k : Int, t = .int k ∧ i < n ∧ k = lo + i := by
 obtain ⟨h1, rfl⟩ := intsT_at h
 exact ⟨_, rfl, h1, rfl⟩
@[simp] theorem intsT_len (lo : Int) (n : Nat) : (intsT lo n).length = n := by rw [intsT_eq]; simp
theorem fSum_map {α : Type} (g : α → Int) (xs : List α) : fSum (.lst (xs.map fun k => T.int (g k))) = some (.int (xs.map g).sum) := by
 have e : (xs.map fun k => T.int (g k)) = (xs.map g).map T.int := by simp
 rw [e, fSum_ints]
noncomputable def RS.goes (r : RS) (J : Slots → Store → Prop) (P : RS → Prop) : Prop := match r with
 | .nx e μ => J e μ
 | .ct e μ => J e μ
 | .bk e μ => P (.nx e μ)
 | r => P r
@[simp] theorem goes_nx (e : Slots) (μ : Store) (J : Slots → Store → Prop) (P : RS → Prop) : (RS.nx e μ).goes J P = J e μ := (rfl)
@[simp] theorem goes_rt (x : SV) (μ : Store) (J : Slots → Store → Prop) (P : RS → Prop) : (RS.rt x μ).goes J P = P (.rt x μ) := (rfl)
theorem forL_inv {same : Store → Prop} {b : BD} {body : DS} (P : RS → Prop) (I : Nat → Slots → Store → Prop) (hs : ∀ i e μ, I i e μ → same μ) {ts : List T}
  (step : ∀ i t e μ, ts[i]? = some t → I i e μ → ∃ e1, b t e = some e1 ∧ (body e1 μ).goes (I (i + 1)) P) (fin : ∀ e μ, I ts.length e μ → P (.nx e μ)) {e : Slots} {μ : Store} (h : I 0 e μ) : P (forL same b body ts e μ) := by
 have all : ∀ (us : List T) (i : Nat) (e : Slots) (μ : Store), ts.drop i = us → I i e μ → i ≤ ts.length → P (forL same b body us e μ) := by
  intro us
  induction us with
  | nil =>
   intro i e μ hd hI hi
   have hl : ts.length ≤ i := by
    have := congrArg List.length hd
    simp at this
    lia
   have e1 : i = ts.length := by lia
   subst e1
   unfold forL
   rw [if_pos (hs _ _ _ hI)]
   exact fin e μ hI
  | cons t us ih =>
   intro i e μ hd hI hi
   have hlt : i < ts.length := by
    have := congrArg List.length hd
    simp at this
    lia
   have hg : ts[i]? = some t := by
    have : (ts.drop i)[0]? = some t := by rw [hd]; rfl
    rw [List.getElem?_drop] at this
    simpa using this
   have hd' : ts.drop (i + 1) = us := by
    rw [← List.tail_drop, hd]; rfl
   obtain ⟨e1, h1, h2⟩ := step i t e μ hg hI
   unfold forL
   rw [if_pos (hs _ _ _ hI)]
   simp only [h1]
   cases q : body e1 μ with
   | nx e2 μ2 => rw [q] at h2; exact ih (i + 1) e2 μ2 hd' h2 hlt
   | ct e2 μ2 => rw [q] at h2; exact ih (i + 1) e2 μ2 hd' h2 hlt
   | bk e2 μ2 => rw [q] at h2; exact h2
   | rt x μ2 => rw [q] at h2; exact h2
   | err c e2 μ2 => rw [q] at h2; exact h2
   | bad => rw [q] at h2; exact h2
 exact all ts 0 e μ rfl h (Nat.zero_le _)
theorem forL_nx {same : Store → Prop} {b : BD} {body : DS} (I : Nat → Slots → Store → Prop) (hs : ∀ i e μ, I i e μ → same μ) {ts : List T}
  (step : ∀ i t e μ, ts[i]? = some t → I i e μ → ∃ e1 e2 μ2, b t e = some e1 ∧ body e1 μ = .nx e2 μ2 ∧ I (i + 1) e2 μ2) {e : Slots} {μ : Store} (h : I 0 e μ) : ∃ e' μ', forL same b body ts e μ = .nx e' μ' ∧ I ts.length e' μ' :=
 forL_inv (P := fun r => ∃ e' μ', r = .nx e' μ' ∧ I ts.length e' μ') I hs (fun i t e μ ht hI => by
  obtain ⟨e1, e2, μ2, h1, h2, h3⟩ := step i t e μ ht hI
  exact ⟨e1, h1, by rw [h2]; exact h3⟩) (fun e μ hI => ⟨e, μ, rfl, hI⟩) h
theorem compL_ints {same : Store → Prop} {b : BD} {c d : D} {e : Slots} {μ : Store} (p : Int → Bool) (g : Int → T) (hs : same μ) (ns : List Int)
  (h : ∀ n ∈ ns, ∃ e1, b (.int n) e = some e1 ∧ c e1 μ = .ok (.val (.bl (p n))) μ ∧ (p n = true → d e1 μ = .ok (.val (g n)) μ)) : compL same b c d e (ns.map T.int) μ = .ok ((ns.filter p).map g) μ := by
 induction ns with
 | nil => unfold compL; rw [List.map_nil]; simp only; rw [if_pos hs]; rfl
 | cons n ns ih =>
  obtain ⟨e1, h1, h2, h3⟩ := h n List.mem_cons_self
  have ih := ih fun u hu => h u (List.mem_cons_of_mem _ hu)
  rw [List.map_cons]
  unfold compL
  rw [if_pos hs]
  simp only [h1, h2, R.calm_ok, R.bind_ok, asB_bl, R.lift_some]
  cases q : p n with
  | true => rw [if_pos rfl, h3 q]; simp [q, ih]
  | false => rw [if_neg Bool.false_ne_true, ih]; simp [q]
theorem compL_all {same : Store → Prop} {b : BD} {d : D} {e : Slots} {μ : Store} (g : Int → T) (hs : same μ) (ns : List Int)
  (h : ∀ n ∈ ns, ∃ e1, b (.int n) e = some e1 ∧ d e1 μ = .ok (.val (g n)) μ) : compL same b (dC (.bl true)) d e (ns.map T.int) μ = .ok (ns.map g) μ := by
 have := compL_ints (same := same) (b := b) (c := dC (.bl true)) (d := d) (e := e) (μ := μ) (fun _ => true) g hs ns fun n hn => by
  obtain ⟨e1, h1, h2⟩ := h n hn
  exact ⟨e1, h1, rfl, fun _ => h2⟩
 rw [this]
 congr 2
 exact List.filter_eq_self.mpr fun _ _ => rfl
theorem compL_of {α : Type} {same : Store → Prop} {b : BD} {c d : D} {e : Slots} {μ : Store} (f : α → T) (p : α → Bool) (g : α → T) (hs : same μ) (as : List α)
  (h : ∀ a ∈ as, ∃ e1, b (f a) e = some e1 ∧ c e1 μ = .ok (.val (.bl (p a))) μ ∧ (p a = true → d e1 μ = .ok (.val (g a)) μ)) : compL same b c d e (as.map f) μ = .ok ((as.filter p).map g) μ := by
 induction as with
 | nil => unfold compL; rw [List.map_nil]; simp only; rw [if_pos hs]; rfl
 | cons n ns ih =>
  obtain ⟨e1, h1, h2, h3⟩ := h n List.mem_cons_self
  have ih := ih fun u hu => h u (List.mem_cons_of_mem _ hu)
  rw [List.map_cons]
  unfold compL
  rw [if_pos hs]
  simp only [h1, h2, R.calm_ok, R.bind_ok, asB_bl, R.lift_some]
  cases q : p n with
  | true => rw [if_pos rfl, h3 q]; simp [q, ih]
  | false => rw [if_neg Bool.false_ne_true, ih]; simp [q]
theorem compL_ofA {α : Type} {same : Store → Prop} {b : BD} {d : D} {e : Slots} {μ : Store} (f : α → T) (g : α → T) (hs : same μ) (as : List α)
  (h : ∀ a ∈ as, ∃ e1, b (f a) e = some e1 ∧ d e1 μ = .ok (.val (g a)) μ) : compL same b (dC (.bl true)) d e (as.map f) μ = .ok (as.map g) μ := by
 have := compL_of (same := same) (b := b) (c := dC (.bl true)) (d := d) (e := e) (μ := μ) f (fun _ => true) g hs as fun n hn => by
  obtain ⟨e1, h1, h2⟩ := h n hn
  exact ⟨e1, h1, rfl, fun _ => h2⟩
 rw [this]
 congr 2
 exact List.filter_eq_self.mpr fun _ _ => rfl
theorem zipT_ints (xs ys : List Int) : zipT (xs.map T.int) (ys.map T.int) = (xs.zip ys).map fun q => .tup [.int q.1, .int q.2] := by
 induction xs generalizing ys with
 | nil => rfl
 | cons x xs ih =>
  cases ys with
  | nil => rfl
  | cons y ys => simp [zipT, ih]
theorem zipT_len (ts us : List T) : (zipT ts us).length = min ts.length us.length := by
 induction ts generalizing us with
 | nil => simp [zipT]
 | cons t ts ih =>
  cases us with
  | nil => simp [zipT]
  | cons u us => simp [zipT, ih]
theorem whileN_more {c : D} {body : DS} : ∀ (n m : Nat) (e : Slots) (μ : Store), n ≤ m → whileN c body n e μ ≠ .bad → whileN c body m e μ = whileN c body n e μ
 | 0, m, e, μ, _, h => absurd rfl h
 | n + 1, 0, e, μ, h, _ => absurd h (by lia)
 | n + 1, m + 1, e, μ, hnm, h => by
  unfold whileN at h ⊢
  cases q : c e μ with
  | err x μ1 => simp only [R.toS_err]
  | bad => rw [q] at h; exact absurd rfl h
  | ok x μ1 =>
   rw [q] at h
   simp only [R.toS_ok] at h ⊢
   cases q2 : asB x with
   | none => rw [q2] at h; exact absurd rfl h
   | some k =>
    rw [q2] at h
    simp only [R.lift_some, R.toS_ok] at h ⊢
    cases k with
    | false => rfl
    | true =>
     rw [if_pos rfl] at h ⊢
     rw [if_pos rfl]
     cases q3 : body e μ1 with
     | nx e2 μ2 => rw [q3] at h; simp only at h ⊢; exact whileN_more n m e2 μ2 (by lia) h
     | ct e2 μ2 => rw [q3] at h; simp only at h ⊢; exact whileN_more n m e2 μ2 (by lia) h
     | bk e2 μ2 => rfl
     | rt x μ2 => rfl
     | err x e2 μ2 => rfl
     | bad => rfl
theorem sWhile_eq {c : D} {body : DS} {n : Nat} {e : Slots} {μ : Store} (h : whileN c body n e μ ≠ .bad) : sWhile c body e μ = whileN c body n e μ := by
 have hn : ∃ n, whileN c body n e μ ≠ .bad := ⟨n, h⟩
 unfold sWhile
 rw [dif_pos hn]
 have h2 := hn.choose_spec
 rcases Nat.le_total n hn.choose with z | z
 ·exact whileN_more _ _ _ _ z h
 ·exact (whileN_more _ _ _ _ z h2).symm
theorem sWhile_inv {c : D} {body : DS} (P : RS → Prop) (hP : ¬ P .bad) (I : Nat → Slots → Store → Prop)
  (step : ∀ m e μ, I m e μ → ∃ k μ1, c e μ = .ok (.val (.bl k)) μ1 ∧ if k = true then (body e μ1).goes (fun e2 μ2 => ∃ m', m' < m ∧ I m' e2 μ2) P else P (.nx e μ1)) :
  ∀ (m : Nat) (e : Slots) (μ : Store), I m e μ → P (sWhile c body e μ) := by
 have key : ∀ (m : Nat) (e : Slots) (μ : Store), I m e μ → ∃ n, P (whileN c body n e μ) := by
  intro m
  induction m using Nat.strongRecOn with
  | ind m ih =>
   intro e μ hI
   obtain ⟨k, μ1, h1, h2⟩ := step m e μ hI
   cases k with
   | false =>
    refine ⟨1, ?_⟩
    unfold whileN
    simp only [h1, R.toS_ok, asB_bl, R.lift_some, Bool.false_eq_true, if_false]
    exact h2
   | true =>
    rw [if_pos rfl] at h2
    cases q : body e μ1 with
    | nx e2 μ2 =>
     rw [q] at h2
     obtain ⟨m', hm, hI'⟩ := h2
     obtain ⟨n, hn⟩ := ih m' hm e2 μ2 hI'
     refine ⟨n + 1, ?_⟩
     unfold whileN
     simp only [h1, R.toS_ok, asB_bl, R.lift_some, if_true, q]
     exact hn
    | ct e2 μ2 =>
     rw [q] at h2
     obtain ⟨m', hm, hI'⟩ := h2
     obtain ⟨n, hn⟩ := ih m' hm e2 μ2 hI'
     refine ⟨n + 1, ?_⟩
     unfold whileN
     simp only [h1, R.toS_ok, asB_bl, R.lift_some, if_true, q]
     exact hn
    | bk e2 μ2 =>
     rw [q] at h2
     refine ⟨1, ?_⟩
     unfold whileN
     simp only [h1, R.toS_ok, asB_bl, R.lift_some, if_true, q]
     exact h2
    | rt x μ2 =>
     rw [q] at h2
     refine ⟨1, ?_⟩
     unfold whileN
     simp only [h1, R.toS_ok, asB_bl, R.lift_some, if_true, q]
     exact h2
    | err x e2 μ2 =>
     rw [q] at h2
     refine ⟨1, ?_⟩
     unfold whileN
     simp only [h1, R.toS_ok, asB_bl, R.lift_some, if_true, q]
     exact h2
    | bad => rw [q] at h2; exact absurd h2 hP
 intro m e μ hI
 obtain ⟨n, hn⟩ := key m e μ hI
 rw [sWhile_eq (n := n) (fun z => hP (z ▸ hn))]
 exact hn
end Fw
namespace Fw.H
open PySem Fw
noncomputable def b_cell : DS :=
 (sSeq (sIf (dBin fLt (dVar 1) (dLen (dVar 0))) (sRet (dIdx (dVar 0) (dVar 1))) sNil)
 (sSeq (sSet 2 (dBin fAdd (dBin fMulA (dVar 1) (dC (.int 7919))) (dC (.int 11))))
 (sSeq (sIf (dBin fGt (dLen (dVar 0)) (dC (.int 0))) (sSet 2 (dBin fAdd (dVar 2) (dBin fMulA (dBin fMod (dIdx (dVar 0) (dBin fMod (dBin fAdd (dBin fMulA (dC (.int 5)) (dVar 1)) (dC (.int 2))) (dLen (dVar 0)))) (dC (.int 2147483629))) (dC (.int 69621))))) sNil)
 (sSeq (sSet 2 (dBin fMod (dBin fMulA (dVar 2) (dVar 2)) (dC (.int 2147483647))))
 (sRet (dBin fMod (dBin fMulA (dVar 2) (dVar 2)) (dC (.int 998244353))))))))
theorem cell_ok (ns : List Int) (k : Int) (μ : Store) (h0 : 0 ≤ k) (h1 : k ≤ 1000) : ∃ c, fnV 3 b_cell [.val (.lst (ns.map T.int)), .val (.int k)] μ = .ok (.val (.int c)) μ := by
 unfold b_cell
 simp
 by_cases h : k < ns.length
 ·simp [h, atI_map h0 h]
 ·simp [h]
  by_cases h2 : 0 < ns.length
  ·have p0 : 0 ≤ (5 * k + 2) % (ns.length : Int) := Int.emod_nonneg _ (by lia)
   have p1 : (5 * k + 2) % (ns.length : Int) < ns.length := Int.emod_lt_of_pos _ (by lia)
   simp (disch := lia) [h2, atI_map p0 p1]
  ·simp (disch := lia) [h2]
noncomputable def b_row : DS :=
 (sSeq (sSet 3 (dCell (dLst [])))
 (sSeq (sIf (dBin fEq (dBin fMod (dVar 0) (dC (.int 2))) (dC (.int 0))) (sSeq (sSet 0 (dBin fDiv (dVar 0) (dC (.int 2))))
 (sSeq (sFor (iRange1 (dVar 2)) (bName 4) (sSeq (sAppend (dVar 3) (dBin fMod (dVar 0) (dVar 1)))
 (sSet 0 (dBin fDiv (dVar 0) (dVar 1)))))
 (sRet (dVar 3)))) sNil)
 (sSeq (sFor (iRange1 (dVar 2)) (bName 4) (sSeq (sSet 5 (dBin fMod (dBin fAdd (dBin fDiv (dVar 0) (dC (.int 2))) (dBin fMulA (dVar 4) (dC (.int 40503)))) (dC (.int 2147483629))))
 (sSeq (sSet 5 (dBin fMod (dBin fAdd (dBin fMulA (dVar 5) (dVar 5)) (dVar 4)) (dC (.int 998244353))))
 (sSeq (sSet 5 (dBin fMod (dBin fMulA (dVar 5) (dVar 5)) (dC (.int 2147483587))))
 (sAppend (dVar 3) (dBin fMod (dBin fDiv (dVar 5) (dC (.int 11))) (dVar 1)))))))
 (sRet (dVar 3)))))
structure Row (m : Int) (n : Int) (ns : List Int) : Prop where
 len : (ns.length : Int) = n
 lo : ∀ x ∈ ns, 0 ≤ x
 hi : ∀ x ∈ ns, x < m
theorem Row.snoc {m : Int} {i : Nat} {ns : List Int} {x : Int} (h : Row m i ns) (h0 : 0 ≤ x) (h1 : x < m) : Row m ((i + 1 : Nat) : Int) (ns ++ [x]) := by
 refine ⟨by have := h.len; simp; lia, fun y hy => ?_, fun y hy => ?_⟩
 ·rcases List.mem_append.mp hy with z | z
  ·exact h.lo y z
  ·simp at z; lia
 ·rcases List.mem_append.mp hy with z | z
  ·exact h.hi y z
  ·simp at z; lia
theorem Row.nil (m : Int) : Row m ((0 : Nat) : Int) [] := ⟨rfl, by simp, by simp⟩
theorem row_ok (c m n : Int) (μ : Store) (hm : 0 < m) (hm2 : m < 1000000) (hn : 0 ≤ n) (hn2 : n ≤ 1000) : ∃ ns, fnV 6 b_row [.val (.int c), .val (.int m), .val (.int n)] μ = .ok (.val (.lst (ns.map T.int))) μ ∧ Row m n ns := by
 unfold b_row
 have hr : (n.toNat : Int) = n := by lia
 by_cases h : c % 2 = 0
 ·simp (disch := lia) [h]
  refine forL_inv (P := fun r => ∃ ns, RS.endV μ.length ((r.seq _).seq _) = R.ok (SV.val (T.lst (ns.map T.int))) μ ∧ Row m n ns)
   (fun i e μ' => ∃ c' x4 ns, e = [some (.val (.int c')), some (.val (.int m)), some (.val (.int n)), some (.cel μ.length), x4, none] ∧ μ' = μ ++ [(true, .lst (ns.map T.int))] ∧ Row m i ns) (fun _ _ _ _ => trivial) ?_ ?_ ⟨_, none, [], rfl, rfl, Row.nil m⟩
  ·rintro i t e μ' ht ⟨c', x4, ns, rfl, rfl, hR⟩
   obtain ⟨hi, rfl⟩ := intsT_at ht
   refine ⟨_, rfl, ?_⟩
   have hl : (ns.map T.int).length < szL := by have := hR.len; unfold szL; simp; lia
   have hm3 : m < 1073741824 := by lia
   simp [hm, hm3, append_st0 _ _ _ _ hl]
   exact ⟨ns ++ [c' % m], by simp, hR.snoc (Int.emod_nonneg _ (by lia)) (Int.emod_lt_of_pos _ hm)⟩
  ·rintro e μ' ⟨c', x4, ns, rfl, rfl, hR⟩
   rw [intsT_len, hr] at hR
   exact ⟨ns, by simp, hR⟩
 ·simp (disch := lia) [h]
  refine forL_inv (P := fun r => ∃ ns, RS.endV μ.length (r.seq _) = R.ok (SV.val (T.lst (ns.map T.int))) μ ∧ Row m n ns)
   (fun i e μ' => ∃ x4 x5 ns, e = [some (.val (.int c)), some (.val (.int m)), some (.val (.int n)), some (.cel μ.length), x4, x5] ∧ μ' = μ ++ [(true, .lst (ns.map T.int))] ∧ Row m i ns) (fun _ _ _ _ => trivial) ?_ ?_ ⟨none, none, [], rfl, rfl, Row.nil m⟩
  ·rintro i t e μ' ht ⟨x4, x5, ns, rfl, rfl, hR⟩
   obtain ⟨k, rfl, hi, hk⟩ := intsT_k ht
   refine ⟨_, rfl, ?_⟩
   have hl : (ns.map T.int).length < szL := by have := hR.len; unfold szL; simp; lia
   simp
   have y0 : 0 ≤ (c / 2 + k * 40503) % 2147483629 ∧ (c / 2 + k * 40503) % 2147483629 < 2147483629 := by lia
   generalize (c / 2 + k * 40503) % 2147483629 = y at y0 ⊢
   rw [fMulA_l y y (by lia) (by lia)]
   simp
   have z0 : 0 ≤ (y * y + k) % 998244353 ∧ (y * y + k) % 998244353 < 998244353 := by lia
   generalize (y * y + k) % 998244353 = z at z0 ⊢
   rw [fMulA_l z z (by lia) (by lia)]
   simp [hm, append_st0 _ _ _ _ hl]
   exact ⟨ns ++ [z * z % 2147483587 / 11 % m], by simp, hR.snoc (Int.emod_nonneg _ (by lia)) (Int.emod_lt_of_pos _ hm)⟩
  ·rintro e μ' ⟨x4, x5, ns, rfl, rfl, hR⟩
   rw [intsT_len, hr] at hR
   exact ⟨ns, by simp, hR⟩
noncomputable def b_p : DS :=
 (sSeq (sIf (dBin fEq (dBin fMod (dBin fDiv (dVar 0) (dC (.int 6))) (dC (.int 8))) (dC (.int 5))) (sRet (dIdx (dLst [(dC (.int 17)), (dC (.int 31)), (dC (.int 61)), (dC (.int 97))]) (dBin fMod (dBin fDiv (dVar 0) (dC (.int 48))) (dC (.int 4))))) sNil)
 (sRet (dIdx (dLst [(dC (.int 2)), (dC (.int 3)), (dC (.int 5)), (dC (.int 7)), (dC (.int 11)), (dC (.int 13))]) (dBin fMod (dVar 0) (dC (.int 6))))))
noncomputable def IsPr (p : Int) : Prop := p ∈ ([2, 3, 5, 7, 11, 13, 17, 19, 23, 29, 31, 37, 41, 43, 47, 53, 59, 61, 67, 71, 73, 79, 83, 89, 97] : List Int)
theorem IsPr.pos {p : Int} (h : IsPr p) : 2 ≤ p ∧ p ≤ 97 := by
 have key : ∀ p ∈ ([2, 3, 5, 7, 11, 13, 17, 19, 23, 29, 31, 37, 41, 43, 47, 53, 59, 61, 67, 71, 73, 79, 83, 89, 97] : List Int), 2 ≤ p ∧ p ≤ 97 := by decide +kernel
 exact key p h
theorem p_ok (c : Int) (μ : Store) : ∃ p, fnV 1 b_p [.val (.int c)] μ = .ok (.val (.int p)) μ ∧ IsPr p := by
 unfold b_p
 by_cases h : c / 6 % 8 = 5
 ·simp [h]
  have : c / 48 % 4 = 0 ∨ c / 48 % 4 = 1 ∨ c / 48 % 4 = 2 ∨ c / 48 % 4 = 3 := by lia
  rcases this with e | e | e | e <;> rw [e]
  ·exact ⟨17, by simp [atI, ixN], by simp [IsPr]⟩
  ·exact ⟨31, by simp [atI, ixN], by simp [IsPr]⟩
  ·exact ⟨61, by simp [atI, ixN], by simp [IsPr]⟩
  ·exact ⟨97, by simp [atI, ixN], by simp [IsPr]⟩
 ·simp [h]
  have : c % 6 = 0 ∨ c % 6 = 1 ∨ c % 6 = 2 ∨ c % 6 = 3 ∨ c % 6 = 4 ∨ c % 6 = 5 := by lia
  rcases this with e | e | e | e | e | e <;> rw [e]
  ·exact ⟨2, by simp [atI, ixN], by simp [IsPr]⟩
  ·exact ⟨3, by simp [atI, ixN], by simp [IsPr]⟩
  ·exact ⟨5, by simp [atI, ixN], by simp [IsPr]⟩
  ·exact ⟨7, by simp [atI, ixN], by simp [IsPr]⟩
  ·exact ⟨11, by simp [atI, ixN], by simp [IsPr]⟩
  ·exact ⟨13, by simp [atI, ixN], by simp [IsPr]⟩
end Fw.H
namespace Fw
open PySem PySem.Spec PyProof.Rows L2
structure Gf (K : PySem.W.Frag) (mg : Str → Option Value) (x : Str) (st : Stmt) (ps : List Str) (f : Addr) (fd : FuncData) : Prop where
 F : Fun K x x st f fd
 b : Binds K fd ps []
 m : mg x = some (.ref f)
noncomputable def relabelS (scope so : Scope) : Scope := { scope with names := scope.names.map fun (n, k) => if (k == .free && so.kind == .function && so.names.lookup n == some .cell) then (n, .cell) else (n, k) }
noncomputable def CompOk (N N' : List Str) (scope so : Scope) (mp : List (Option Nat)) : Prop :=
 scope.kind = .function ∧ (scope.names.filter fun y => y.2 == NameKind.cell).length ≤ 1 ∧ (scope.names.map (·.1)).Nodup ∧ (∀ y ∈ scope.names, (y.2 = .local → scope.names.lookup y.1 = some .local) ∧ (y.2 = .free → (so.names.lookup y.1 = some .cell ∨ so.names.lookup y.1 = some .free) ∧
  ((relabelS scope so).names.lookup y.1 = some .cell ∨ (relabelS scope so).names.lookup y.1 = some .free))) ∧ mp.length = N'.length ∧
 ∀ q ∈ mp.zip N', match q.1 with
  | none => True
  | some j => N[j]? = some q.2 ∧ (q.2, NameKind.free) ∈ scope.names ∧ (so.names.lookup q.2 = some .cell ∨ so.names.lookup q.2 = some .free)
noncomputable instance (N N' : List Str) (scope so : Scope) (mp : List (Option Nat)) : Decidable (CompOk N N' scope so mp) := by
 unfold CompOk
 have : ∀ q : Option Nat × Str, Decidable (match q.1 with
  | none => True
  | some j => N[j]? = some q.2 ∧ (q.2, NameKind.free) ∈ scope.names ∧ (so.names.lookup q.2 = some .cell ∨ so.names.lookup q.2 = some .free)) := fun q => by
  cases q.1 <;> infer_instance
 infer_instance
theorem lookup_of_mem {α : Type} {x : Str} {k : α} : ∀ {l : List (Str × α)}, (l.map (·.1)).Nodup → (x, k) ∈ l → l.lookup x = some k
 | [], _, h => by cases h
 | (y, k') :: l, nd, h => by
  have nd' := List.nodup_cons.mp (by simpa using nd : (y :: l.map (·.1)).Nodup)
  rw [List.lookup_cons]
  rcases List.mem_cons.mp h with e | h
  ·cases e; simp
  ·have : (x == y) = false := by
    have : x ≠ y := fun q => nd'.1 (List.mem_map.mpr ⟨_, h, q⟩)
    simpa using this
   rw [this]
   exact lookup_of_mem nd'.2 h
theorem compScope_of {X : Cx} {N' : List Str} {scope : Scope} {mp : List (Option Nat)} (so : Scope) (hso : X.env.scope = so) (N : List Str) (hN : X.N = N) (h : CompOk N N' scope so mp) : CompScope X N' scope mp := by
 subst hso
 subst hN
 obtain ⟨h1, hc1, hnd, h2, h3, h4⟩ := h
 have er : (relabel scope X.env).names = (relabelS scope X.env.scope).names := rfl
 refine ⟨h1, hc1, hnd, fun y hy => (h2 y hy).1, fun y hy hf => ((h2 y hy).2 hf).1, h3, fun i j hij => ?_, fun x hx => ?_, fun x hx => ?_⟩
 ·have hi : i < mp.length := (List.getElem?_eq_some_iff.mp hij).1
  have hz : (mp.zip N')[i]? = some (some j, N'[i]'(by omega)) := by
   rw [List.getElem?_zip_eq_some]
   exact ⟨hij, by simp⟩
  have := h4 _ (List.mem_of_getElem? hz)
  exact ⟨_, by simp, this⟩
 ·rw [er]; exact ((h2 _ hx).2 rfl).2
 ·rw [er] at hx
  have mem : ∀ k, (relabelS scope X.env.scope).names.lookup x = some k → (k = .cell ∨ k = .free) → (x, NameKind.free) ∈ scope.names ∨ scope.names.lookup x = some .cell := fun k hk hkk => by
   have hm := PySem.mem_of_lookup hk
   unfold relabelS at hm
   obtain ⟨⟨n, k'⟩, hm1, hm2⟩ := List.mem_map.mp hm
   by_cases hc : (k' == .free && X.env.scope.kind == .function && X.env.scope.names.lookup n == some .cell) = true
   ·simp only [hc, if_true] at hm2
    cases hm2
    have : k' = .free := by
     simp only [Bool.and_eq_true, beq_iff_eq] at hc
     exact hc.1.1
    subst this
    exact .inl hm1
   ·simp only [hc, if_false] at hm2
    cases hm2
    rcases hkk with rfl | rfl
    ·exact .inr (lookup_of_mem hnd hm1)
    ·exact .inl hm1
  rcases hx with hx | hx
  ·exact mem _ hx (.inl rfl)
  ·exact mem _ hx (.inr rfl)
section
variable {K : PySem.W.Frag}
theorem Now.lst_ {F H : Hp} {v : V} {ts : List T} (h : Now K F H v (.lst ts)) : ∃ a vs, v = .ref a ∧ SqL K H a vs ∧ RepL K F ts vs := h
theorem Now.tup_ {F H : Hp} {v : V} {ts : List T} (h : Now K F H v (.tup ts)) : ∃ a vs, v = .ref a ∧ SqT K F a vs ∧ RepL K F ts vs := h
theorem sem_ii {r : R2} {f : T → T → Option T} (g : Int → Int → T) (gV : Int → Int → V) (C : Int → Int → Prop) (hr : ∀ i j H Q, C i j → Q (gV i j) H → r (.int i) (.int j) H Q)
  (hf : ∀ t u w, f t u = some w → ∃ i j, t = .int i ∧ u = .int j ∧ w = g i j ∧ C i j) (hg : ∀ F i j, Rep K F (g i j) (gV i j)) : OpSem K r f := by
 intro F H v u t t' w Q s hv hu hw q
 obtain ⟨i, j, rfl, rfl, rfl, hc⟩ := hf _ _ _ hw
 cases hv.int
 cases hu.int
 exact hr i j H Q hc (q _ H F Grow.refl (hg F i j))
theorem sem_sub : OpSem K (rI0 fun i j => .int (i - j)) fSub := sem_ii (fun i j => .int (i - j)) (fun i j => .int (i - j)) (fun _ _ => True) (fun i j H Q _ q => ⟨i, j, rfl, rfl, q⟩)
 (fun t u w h => by cases t <;> cases u <;> first | (cases h; exact ⟨_, _, rfl, rfl, rfl, trivial⟩) | cases h) fun F i j => Rep.int' _
theorem sem_mod : OpSem K (rI (fun _ j => 0 < j) fun i j => .int (i % j)) fMod := sem_ii (fun i j => .int (i % j)) (fun i j => .int (i % j)) (fun _ j => 0 < j) (fun i j H Q c q => ⟨i, j, rfl, rfl, c, q⟩)
 (fun t u w h => by
  cases t <;> cases u <;> first | cases h | skip
  rename_i i j
  by_cases hj : 0 < j
  ·have h : (if 0 < j then some (T.int (i % j)) else none) = some w := h
   rw [if_pos hj] at h
   cases h
   exact ⟨_, _, rfl, rfl, rfl, hj⟩
  ·have h : (if 0 < j then some (T.int (i % j)) else none) = some w := h
   rw [if_neg hj] at h; cases h) fun F i j => Rep.int' _
theorem sem_div : OpSem K (rI CDiv fun i j => .int (i / j)) fDiv := sem_ii (fun i j => .int (i / j)) (fun i j => .int (i / j)) CDiv (fun i j H Q c q => ⟨i, j, rfl, rfl, c, q⟩)
 (fun t u w h => by
  cases t <;> cases u <;> first | cases h | skip
  rename_i i j
  have h : (if 0 < j ∧ j < 1073741824 then some (T.int (i / j)) else none) = some w := h
  by_cases hj : 0 < j ∧ j < 1073741824
  ·rw [if_pos hj] at h
   cases h
   exact ⟨_, _, rfl, rfl, rfl, hj⟩
  ·rw [if_neg hj] at h; cases h) fun F i j => Rep.int' _
theorem sem_lt : OpSem K (rI0 fun i j => .bl (decide (i < j))) fLt := sem_ii (fun i j => .bl (decide (i < j))) (fun i j => .bl (decide (i < j))) (fun _ _ => True) (fun i j H Q _ q => ⟨i, j, rfl, rfl, q⟩)
 (fun t u w h => by cases t <;> cases u <;> first | (cases h; exact ⟨_, _, rfl, rfl, rfl, trivial⟩) | cases h) fun F i j => Rep.bl' _
theorem sem_le : OpSem K (rI0 fun i j => .bl (decide (i ≤ j))) fLe := sem_ii (fun i j => .bl (decide (i ≤ j))) (fun i j => .bl (decide (i ≤ j))) (fun _ _ => True) (fun i j H Q _ q => ⟨i, j, rfl, rfl, q⟩)
 (fun t u w h => by cases t <;> cases u <;> first | (cases h; exact ⟨_, _, rfl, rfl, rfl, trivial⟩) | cases h) fun F i j => Rep.bl' _
theorem sem_gt : OpSem K (rI0 fun i j => .bl (decide (j < i))) fGt := sem_ii (fun i j => .bl (decide (j < i))) (fun i j => .bl (decide (j < i))) (fun _ _ => True) (fun i j H Q _ q => ⟨i, j, rfl, rfl, q⟩)
 (fun t u w h => by cases t <;> cases u <;> first | (cases h; exact ⟨_, _, rfl, rfl, rfl, trivial⟩) | cases h) fun F i j => Rep.bl' _
end
section
variable {X : Cx} {a b c : Expr} {da db dc : D} {pos p p2 : Pos}
theorem ce_sub (ha : CE X a da) (hb : CE X b db) : CE X (.BinOp a .Sub b pos) (dBin fSub da db) := ce_bin op_sub sem_sub ha hb
theorem ce_mod (ha : CE X a da) (hb : CE X b db) : CE X (.BinOp a .Mod b pos) (dBin fMod da db) := ce_bin op_mod sem_mod ha hb
theorem ce_div (ha : CE X a da) (hb : CE X b db) : CE X (.BinOp a .FloorDiv b pos) (dBin fDiv da db) := ce_bin op_fdiv sem_div ha hb
theorem ct_lt (ha : CE X a da) (hb : CE X b db) : CT X (.Compare a [.Lt] [b] pos) (dBin fLt da db) := ct_cmp op_lt sem_lt (nomark _) ha hb
theorem ct_gt (ha : CE X a da) (hb : CE X b db) : CT X (.Compare a [.Gt] [b] pos) (dBin fGt da db) := ct_cmp op_gt sem_gt (nomark _) ha hb
theorem ce_neg (ha : CE X a da) : CE X (.UnaryOp .USub a pos) (dUn fNeg da) := ce_un un_neg (by
 intro F H v t w Q s hv hw q
 cases t <;> first | cases hw | skip
 cases hv.int
 exact ⟨_, rfl, q _ H F Grow.refl (Rep.int' _)⟩) ha
end
end Fw
namespace L2
open PySem PySem.Spec PyProof.Rows
section
variable {X : Cx}
noncomputable def rCatTA (K : PySem.W.Frag) : R2 := fun x y H Q => ∃ a b xs ys, x = .ref a ∧ y = .ref b ∧ SqT K H a xs ∧ SqT K H b ys ∧ xs.length + ys.length ≤ sizeLine ∧
 (xs = [] → Q (.ref b) H) ∧ (xs ≠ [] → ys = [] → Q (.ref a) H) ∧ (xs ≠ [] → ys ≠ [] → ∀ p, H p = none → Q (.ref p) (upd H p (.tup (xs ++ ys))))
theorem op_catTA : OpR X (binaryOp .Add) (rCatTA X.K) := by
 intro pins s σ H x y v u Q I rx ry h
 obtain ⟨a, b, xs, ys, hx0, hy0, ha, hb, hz, q0, q1, q2⟩ := h
 by_cases hx : xs = []
 ·subst hx0; subst hy0
  cases rx
  cases ry
  obtain ⟨its, r1, p1, _⟩ := I.tuple ha
  obtain ⟨its2, r2, p2, _⟩ := I.tuple hb
  obtain ⟨⟨cls, dd, data, sl⟩, ho, hc, n, hd⟩ := id p1
  obtain ⟨⟨cls2, dd2, data2, sl2⟩, ho2, hc2, n2, hd2⟩ := id p2
  simp only at hc hd hc2 hd2
  subst hc hd hc2 hd2
  have e : its = [] := r1.nil_iff.mpr hx
  exact concat_meets ⟨_, ho, rfl⟩ ⟨_, ho2, rfl⟩ noFill_tuple_add seq_tuple_add PySem.F.slot_tuple_add PySem.F.entry_tuple_add (PySem.F.args_tuple_add_2 _ _)
   (tuple_addW0 a b its.toArray its2.toArray n n2 dd dd2 sl sl2 (by simp [e])) ⟨ho, ho2, .ref b, H, I, rfl, q0 hx⟩
 ·exact op_catT pins s σ H x y v u Q I rx ry ⟨a, b, xs, ys, hx0, hy0, ha, hb, hx, hz, q1 hx, q2 hx⟩
noncomputable def rCatS (K : PySem.W.Frag) : R2 := fun x y H Q => ∃ l b xs zs, x = .ref l ∧ y = .ref b ∧ SqL K H l xs ∧ SqL K H b zs ∧ xs.length + zs.length ≤ sizeLine ∧ ∀ p, H p = none → Q (.ref p) (upd H p (.lst (xs ++ zs)))
theorem op_catS : OpR X (binaryOp .Add) (rCatS X.K) := by
 intro pins s σ H x y v u Q I rx ry h
 obtain ⟨l, b, xs, zs, rfl, rfl, hA, hB, hz, q⟩ := h
 cases rx
 cases ry
 obtain ⟨its, r, p1, _⟩ := I.list hA
 obtain ⟨its2, r2, p2, _⟩ := I.list hB
 obtain ⟨⟨cls, dd, data, sl⟩, ho, hc, n, hd⟩ := id p1.isList
 obtain ⟨⟨cls2, dd2, data2, sl2⟩, ho2, hc2, n2, hd2⟩ := id p2.isList
 simp only at hc hd hc2 hd2
 subst hc hd hc2 hd2
 have hl := r.length
 have hl2 := r2.length
 have e : its.toArray ++ its2.toArray = (its ++ its2).toArray := by simp
 refine concat_meets ⟨_, ho, rfl⟩ ⟨_, ho2, rfl⟩ noFill_list_add seq_list_add PySem.F.slot_list_add PySem.F.entry_list_add (PySem.F.args_list_add_2 _ _)
  (list_addW l b its.toArray its2.toArray n n2 dd dd2 sl sl2 (by rw [List.size_toArray, List.size_toArray]; lia)) ⟨ho, ho2, ?_⟩
 rw [e]
 exact ⟨.ref _, _, I.lnew (t' := s.toks) (r.append r2) (by rw [List.length_append]; lia), rfl, q _ I.fresh⟩
end
end L2
namespace Fw
open PySem PySem.Spec PyProof.Rows L2
section
variable {K : PySem.W.Frag}
theorem szL_eq : szL = sizeLine := rfl
theorem RepL.nil_of {F : Hp} {ts : List T} {vs : List V} (h : RepL K F ts vs) (e : vs = []) : ts = [] := by
 have := h.length
 subst e
 exact List.length_eq_zero_iff.mp (by simpa using this)
theorem new_lst {F H : Hp} {ts : List T} {vs : List V} {Q : VK} {p : Addr} (s : Same F H) (hp : H p = none) (r : RepL K F ts vs) (q : ∀ v' H' F', Grow F H F' H' → Rep K F' (.lst ts) v' → Q v' H') : Q (.ref p) (upd H p (.lst vs)) := by
 have g : Grow F H (upd F p (.lst vs)) (upd H p (.lst vs)) := Grow.new hp
 refine q _ _ _ g ?_
 rw [Rep]
 exact ⟨p, vs, rfl, SqL.of upd_same, RepL.mono (g.same s) _ _ r⟩
theorem new_tup {F H : Hp} {ts : List T} {vs : List V} {Q : VK} {p : Addr} (s : Same F H) (hp : H p = none) (r : RepL K F ts vs) (q : ∀ v' H' F', Grow F H F' H' → Rep K F' (.tup ts) v' → Q v' H') : Q (.ref p) (upd H p (.tup vs)) := by
 have g : Grow F H (upd F p (.tup vs)) (upd H p (.tup vs)) := Grow.new hp
 refine q _ _ _ g ?_
 rw [Rep]
 exact ⟨p, vs, rfl, SqT.of upd_same, RepL.mono (g.same s) _ _ r⟩
theorem rep_tup {F : Hp} {a : Addr} {ts : List T} {vs : List V} (h : SqT K F a vs) (r : RepL K F ts vs) : Rep K F (.tup ts) (.ref a) := by
 rw [Rep]; exact ⟨a, vs, rfl, h, r⟩
theorem sem_add : OpSem K (fun x y H Q => (rI0 fun i j => .int (i + j)) x y H Q ∨ (fun x y H Q => ∃ i j, x = .str i ∧ y = .str j ∧ i.length + j.length ≤ sizeLine ∧ Q (.str (i ++ j)) H) x y H Q ∨ rCatTA K x y H Q ∨ rCatS K x y H Q) fAdd := by
 intro F H v u t t' w Q s hv hu hw q
 cases t with
 | int i =>
  cases t' with
  | int j =>
   cases hw
   cases hv.int
   cases hu.int
   exact .inl ⟨i, j, rfl, rfl, q _ H F Grow.refl (Rep.int' _)⟩
  | _ => cases hw
 | str i =>
  cases t' with
  | str j =>
   have hw : (if i.length + j.length ≤ szL then some (T.str (i ++ j)) else none) = some w := hw
   by_cases hz : i.length + j.length ≤ szL
   ·rw [if_pos hz] at hw
    cases hw
    cases hv.str
    cases hu.str
    exact .inr (.inl ⟨i, j, rfl, rfl, hz, q _ H F Grow.refl (Rep.str' _)⟩)
   ·rw [if_neg hz] at hw; cases hw
  | _ => cases hw
 | tup xs =>
  cases t' with
  | tup ys =>
   have hw : (if xs.length + ys.length ≤ szL then some (T.tup (xs ++ ys)) else none) = some w := hw
   by_cases hz : xs.length + ys.length ≤ szL
   ·rw [if_pos hz] at hw
    cases hw
    obtain ⟨a, vs, rfl, ha, ra⟩ := hv.tup_
    obtain ⟨b, us, rfl, hb, rb⟩ := hu.tup_
    refine .inr (.inr (.inl ⟨a, b, vs, us, rfl, rfl, Same.seqT s ha, Same.seqT s hb, ?_, fun e => ?_, fun e e2 => ?_, fun e e2 p hp => ?_⟩))
    ·have := ra.length; have := rb.length; rw [szL_eq] at hz; lia
    ·refine q _ H F Grow.refl ?_
     rw [ra.nil_of e, List.nil_append]
     exact rep_tup hb rb
    ·refine q _ H F Grow.refl ?_
     rw [rb.nil_of e2, List.append_nil]
     exact rep_tup ha ra
    ·exact new_tup s hp (ra.append rb) q
   ·rw [if_neg hz] at hw; cases hw
  | _ => cases hw
 | lst xs =>
  cases t' with
  | lst ys =>
   have hw : (if xs.length + ys.length ≤ szL then some (T.lst (xs ++ ys)) else none) = some w := hw
   by_cases hz : xs.length + ys.length ≤ szL
   ·rw [if_pos hz] at hw
    cases hw
    obtain ⟨a, vs, rfl, ha, ra⟩ := hv.lst_
    obtain ⟨b, us, rfl, hb, rb⟩ := hu.lst_
    exact .inr (.inr (.inr ⟨a, b, vs, us, rfl, rfl, ha, hb, by have := ra.length; have := rb.length; rw [szL_eq] at hz; lia, fun p hp => new_lst s hp (ra.append rb) q⟩))
   ·rw [if_neg hz] at hw; cases hw
  | _ => cases hw
 | _ => cases hw
end
section
variable {X : Cx} {a b c : Expr} {da db dc : D} {pos p p2 : Pos}
theorem ce_add (ha : CE X a da) (hb : CE X b db) : CE X (.BinOp a .Add b pos) (dBin fAdd da db) := ce_bin (op_add.or (op_add_str.or (op_catTA.or op_catS))) sem_add ha hb
end
end Fw
namespace Fw
open PySem PySem.Spec PyProof.Rows L2
section
variable {K : PySem.W.Frag}
theorem sem_mul : OpSem K (rI CMul fun i j => .int (i * j)) fMulA := sem_ii (fun i j => .int (i * j)) (fun i j => .int (i * j)) CMul (fun i j H Q c q => ⟨i, j, rfl, rfl, c, q⟩)
 (fun t u w h => by
  unfold fMulA at h
  cases t <;> cases u <;> first | cases h | skip
  rename_i i j
  have h : (if (-(2 ^ 64) < i ∧ i < 2 ^ 64) ∨ (-(2 ^ 64) < j ∧ j < 2 ^ 64) then some (T.int (i * j)) else none) = some w := h
  by_cases hj : (-(2 ^ 64) < i ∧ i < 2 ^ 64) ∨ (-(2 ^ 64) < j ∧ j < 2 ^ 64)
  ·rw [if_pos hj] at h
   cases h
   exact ⟨_, _, rfl, rfl, rfl, hj⟩
  ·rw [if_neg hj] at h; cases h) fun F i j => Rep.int' _
theorem RepL.atI {F : Hp} {ts : List T} {vs : List V} {i : Int} {t : T} (h : RepL K F ts vs) (e : Fw.atI ts i = some t) : ∃ v, L2.atI vs i = some v ∧ Rep K F t v := by
 have hl := h.length
 unfold Fw.atI at e
 obtain ⟨j, h1, h2⟩ := Option.bind_eq_some_iff.mp e
 obtain ⟨v, hv, rv⟩ := h.get h2
 refine ⟨v, ?_, rv⟩
 unfold L2.atI
 have : L2.ixN vs.length i = some j := by rw [← hl]; exact h1
 rw [this]
 exact hv
theorem Paired.atI {α β : Type} {P : α → β → Prop} {xs : List α} {ys : List β} {i : Int} {y : β} (h : Paired P xs ys) (e : Fw.atI ys i = some y) : ∃ x, L2.atI xs i = some x ∧ P x y := by
 have hl := h.length
 unfold Fw.atI at e
 obtain ⟨j, h1, h2⟩ := Option.bind_eq_some_iff.mp e
 have get : ∀ {xs : List α} {ys : List β} {j : Nat} {y : β}, Paired P xs ys → ys[j]? = some y → ∃ x, xs[j]? = some x ∧ P x y := by
  intro xs ys j y o
  induction o generalizing j with
  | nil => intro e; simp at e
  | cons r _ ih =>
   intro e
   cases j with
   | zero => simp at e; subst e; exact ⟨_, rfl, r⟩
   | succ j =>
    obtain ⟨v, h1, h2⟩ := ih (j := j) (by simpa using e)
    exact ⟨v, by simpa using h1, h2⟩
 obtain ⟨v, hv, rv⟩ := get h h2
 refine ⟨v, ?_, rv⟩
 unfold L2.atI
 have : L2.ixN xs.length i = some j := by rw [hl]; exact h1
 rw [this]
 exact hv
end
section
variable {X : Cx} {a b c : Expr} {da db dc : D} {pos p p2 : Pos}
theorem ce_mul (ha : CE X a da) (hb : CE X b db) : CE X (.BinOp a .Mult b pos) (dBin fMulA da db) := ce_bin op_mul sem_mul ha hb
theorem ce_idx (ha : CE X a da) (hb : CE X b db) (hp : PlainIx b := by intro _ _; rfl) : CE X (.Subscript a b pos) (dIdx da db) :=
 PE.imp (pe_ix ix_seq ha hb hp) fun σ H Q hX11_ => by
  obtain ⟨F, α, e, μ, S, h⟩ := hX11_
  refine ⟨F, α, e, μ, S, ?_⟩
  refine (R.wp_bind h).mono (fun x μ1 h v H1 F1 α1 x1 S1 o1 => ⟨F1, α1, e, μ1, S1, ?_⟩) fun _ _ h => h
  refine (R.wp_bind h).mono (fun y μ2 h v2 H2 F2 α2 x2 S2 o2 => ?_) fun _ _ h => h.mono x1
  obtain ⟨w, h9, post⟩ := R.wp_lift h
  obtain ⟨u, hu, h⟩ := Option.bind_eq_some_iff.mp h9
  have nu := now_of S2.st o2 hu
  have fin : ∀ {v'}, SvOk X.K F2 α2 v' w → Q v' H2 := fun {v'} o => post v' H2 F2 α2 (x1.trans x2) S2 o
  have o1' := o1.mono x2.same x2.pre
  have gen : ∀ t, rd μ2 x = some t → ap1 (fun t => fIdx t u) (some t) = some w → rIx X.K v v2 H2 Q := fun t hr h => by
   obtain ⟨t', w', e1, h, rfl⟩ := ap1_eq h
   cases e1
   have nt := now_of S2.st o1' hr
   cases t with
   | lst ts =>
    cases u with
    | int i =>
     cases nu.int
     obtain ⟨a, vs, rfl, hq, hl⟩ := nt.lst_
     obtain ⟨v', g1, g2⟩ := hl.atI h
     exact .inl ⟨a, vs, i, v', rfl, rfl, hq, g1, fin g2⟩
    | _ => cases h
   | tup ts =>
    cases u with
    | int i =>
     cases nu.int
     obtain ⟨a, vs, rfl, hq, hl⟩ := nt.tup_
     obtain ⟨v', g1, g2⟩ := hl.atI h
     exact .inr (.inl ⟨a, vs, i, v', rfl, rfl, Same.seqT S2.st.ext hq, g1, fin g2⟩)
    | _ => cases h
   | str z =>
    cases u with
    | int i =>
     cases nu.int
     cases nt.str
     have h : (if z.length ≤ szL then (Fw.atI z.cps.toList i).map fun c => T.str ⟨#[c]⟩ else none) = some w' := h
     by_cases hz : z.length ≤ szL
     ·rw [if_pos hz] at h
      obtain ⟨ch, g1, rfl⟩ := Option.map_eq_some_iff.mp h
      exact .inr (.inr ⟨z, i, ch, rfl, rfl, hz, g1, fin (Rep.str' (K := X.K) (F := F2) _)⟩)
     ·rw [if_neg hz] at h; cases h
    | _ => cases h
   | _ => cases u <;> cases h
  cases x with
  | val t => exact gen t rfl (by unfold idxS at h; exact h)
  | cel k =>
   cases q : rd μ2 (.cel k) with
   | none => unfold idxS at h; simp only at h; rw [q] at h; cases h
   | some t => exact gen t q (by unfold idxS at h; simp only at h; rw [q] at h; exact h)
  | box xs =>
   cases u with
   | int i =>
    cases nu.int
    obtain ⟨y', h1, rfl⟩ := Option.map_eq_some_iff.mp (show (Fw.atI xs i).map pick = some w from h)
    obtain ⟨a, vs, rfl, hq, hp⟩ := o1'
    obtain ⟨v', g1, g2⟩ := Paired.atI hp h1
    refine .inr (.inl ⟨a, vs, i, v', rfl, rfl, Same.seqT S2.st.ext hq, g1, fin ?_⟩)
    cases y' with
    | inl t => exact g2
    | inr k => exact g2
   | _ => cases h
theorem ce_len (hm : X.mg "len" = none) (ha : CE X a da) (hg : Gl X "len" := by rfl) (hs1 : starEach [a] X.env = (false, eval a X.env) :: starEach [] X.env := by rfl) (hpl : (backTo pos (starEach [] X.env)).any (·.1) = false := by rfl) :
  CE X (.Call (.Name "len" p) [a] [] pos) (dLen da) :=
 PE.imp (pe_callB (call_len_seq.or (call_len_str.or call_lenD)) hg hm PySem.boot_len (ca_cons ha ca_nil hs1) (by decide) (by decide) hs1 hpl) fun σ H Q hX11_ => by
  obtain ⟨F, α, e, μ, S, h⟩ := hX11_
  refine args1 ⟨F, α, e, μ, S, (R.wp_bind h).mono (fun x μ1 h v H1 F1 α1 x1 S1 o1 => ?_) fun _ _ h => h⟩
  obtain ⟨w, h9, post⟩ := R.wp_lift h
  obtain ⟨w', h, rfl⟩ := Option.map_eq_some_iff.mp h9
  have fin : ∀ {v'}, Rep X.K F1 w' v' → Q v' H1 := fun {v'} o => post v' H1 F1 α1 x1 S1 o
  have gen : ∀ t, rd μ1 x = some t → fLen t = some w' → (∃ p ys, [v] = [V.ref p] ∧ (SqL X.K H1 p ys ∨ SqT X.K H1 p ys) ∧ Q (.int ys.length) H1) ∨ (∃ z, [v] = [V.str z] ∧ z.length ≤ sizeLine ∧ Q (.int z.length) H1) ∨
    ∃ d kvs, [v] = [V.ref d] ∧ H1 d = some (.dK kvs) ∧ Q (.int kvs.length) H1 := fun t hr h => by
   have nt := now_of S1.st o1 hr
   cases t with
   | lst ts =>
    cases h
    obtain ⟨a, vs, rfl, hq, hl⟩ := nt.lst_
    exact .inl ⟨a, vs, rfl, .inl hq, fin (by rw [hl.length]; exact Rep.int' _)⟩
   | tup ts =>
    cases h
    obtain ⟨a, vs, rfl, hq, hl⟩ := nt.tup_
    exact .inl ⟨a, vs, rfl, .inr (Same.seqT S1.st.ext hq), fin (by rw [hl.length]; exact Rep.int' _)⟩
   | str z =>
    cases nt.str
    have h : (if z.length ≤ szL then some (T.int z.length) else none) = some w' := h
    by_cases hz : z.length ≤ szL
    ·rw [if_pos hz] at h
     cases h
     exact .inr (.inl ⟨z, rfl, hz, fin (Rep.int' _)⟩)
    ·rw [if_neg hz] at h; cases h
   | dct kts =>
    cases h
    obtain ⟨a, kvs, rfl, hq, hl⟩ := nt
    exact .inr (.inr ⟨a, kvs, rfl, hq, fin (by rw [hl.length]; exact Rep.int' _)⟩)
   | _ => cases h
  cases x with
  | val t => exact gen t rfl (by unfold lenS at h; exact h)
  | cel k =>
   cases q : rd μ1 (.cel k) with
   | none => unfold lenS at h; simp only at h; rw [q] at h; cases h
   | some t => exact gen t q (by unfold lenS at h; simp only at h; rw [q] at h; exact h)
  | box xs =>
   cases h
   obtain ⟨a, vs, rfl, hq, hp⟩ := o1
   exact .inl ⟨a, vs, rfl, .inr (Same.seqT S1.st.ext hq), fin (by rw [hp.length]; exact Rep.int' _)⟩
end
end Fw
namespace Fw
open PySem PySem.Spec PyProof.Rows L2
mutual
noncomputable def toPy : T → PyData
 | .non => .none
 | .bl b => .bool b
 | .int i => .int i
 | .str x => .str x
 | .lst ts => .list (toPys ts)
 | .tup ts => .tuple (toPys ts)
 | .dct _ => .dict []
 | .exc _ _ => .dict []
noncomputable def toPys : List T → List PyData
 | [] => []
 | t :: ts => toPy t :: toPys ts
end
mutual
theorem can_of : ∀ (n : Nat) (t : T), okT n t = true → (toPy t).canLay0 = true ∧ (toPy t).depth ≤ n
 | n, .non, _ => ⟨by rw [toPy, PyData.canLay0], by rw [toPy, PyData.depth]; exact Nat.zero_le _⟩
 | n, .bl _, _ => ⟨by rw [toPy, PyData.canLay0], by rw [toPy, PyData.depth]; exact Nat.zero_le _⟩
 | n, .int _, _ => ⟨by rw [toPy, PyData.canLay0], by rw [toPy, PyData.depth]; exact Nat.zero_le _⟩
 | n, .str x, h => by
  unfold okT at h
  exact ⟨by rw [toPy, PyData.canLay0]; exact h, by rw [toPy, PyData.depth]; exact Nat.zero_le _⟩
 | 0, .lst ts, h => by rw [okT] at h; cases h
 | n + 1, .lst ts, h => by
  rw [okT] at h
  obtain ⟨h1, h2⟩ := cans_of n ts h
  exact ⟨by rw [toPy, PyData.canLay0]; exact h1, by rw [toPy, PyData.depth]; lia⟩
 | 0, .tup ts, h => by rw [okT] at h; cases h
 | n + 1, .tup ts, h => by
  rw [okT] at h
  obtain ⟨h1, h2⟩ := cans_of n ts h
  exact ⟨by rw [toPy, PyData.canLay0]; exact h1, by rw [toPy, PyData.depth]; lia⟩
 | n, .dct _, h => by unfold okT at h; cases h
 | n, .exc _ _, h => by unfold okT at h; cases h
theorem cans_of : ∀ (n : Nat) (ts : List T), okTs n ts = true → PyData.canLayAll0 (toPys ts) = true ∧ PyData.depthAll (toPys ts) ≤ n
 | n, [], _ => ⟨by rw [toPys, PyData.canLayAll0], by rw [toPys, PyData.depthAll]; exact Nat.zero_le _⟩
 | n, t :: ts, h => by
  rw [okTs, Bool.and_eq_true] at h
  obtain ⟨h1, h2⟩ := can_of n t h.1
  obtain ⟨h3, h4⟩ := cans_of n ts h.2
  exact ⟨by rw [toPys, PyData.canLayAll0, h1, h3]; rfl, by rw [toPys, PyData.depthAll]; lia⟩
end
mutual
theorem eqv_of : ∀ (n : Nat) (t u : T), okT n t = true → okT n u = true → PyData.eqv (toPy t) (toPy u) = eqT t u
 | n, .non, u, _, h => by cases u <;> first | (simp [toPy, eqT, PyData.eqv]; done) | (unfold okT at h; cases h)
 | n, .bl a, u, _, h => by cases u <;> first | (simp [toPy, eqT, PyData.eqv]; done) | (unfold okT at h; cases h)
 | n, .int a, u, _, h => by cases u <;> first | (simp [toPy, eqT, PyData.eqv]; done) | (unfold okT at h; cases h)
 | n, .str a, u, _, h => by cases u <;> first | (simp [toPy, eqT, PyData.eqv]; done) | (unfold okT at h; cases h)
 | 0, .lst a, u, h, _ => by rw [okT] at h; cases h
 | n + 1, .lst a, u, h1, h => by
  cases u with
  | lst b => rw [toPy, toPy, eqT, PyData.eqv]; rw [okT] at h1 h; exact eqvs_of n a b h1 h
  | dct _ => unfold okT at h; cases h
  | exc _ _ => unfold okT at h; cases h
  | _ => simp [toPy, eqT, PyData.eqv]
 | 0, .tup a, u, h, _ => by rw [okT] at h; cases h
 | n + 1, .tup a, u, h1, h => by
  cases u with
  | tup b => rw [toPy, toPy, eqT, PyData.eqv]; rw [okT] at h1 h; exact eqvs_of n a b h1 h
  | dct _ => unfold okT at h; cases h
  | exc _ _ => unfold okT at h; cases h
  | _ => simp [toPy, eqT, PyData.eqv]
 | n, .dct _, u, h, _ => by unfold okT at h; cases h
 | n, .exc _ _, u, h, _ => by unfold okT at h; cases h
theorem eqvs_of : ∀ (n : Nat) (ts us : List T), okTs n ts = true → okTs n us = true → PyData.eqvAll (toPys ts) (toPys us) = eqTs ts us
 | n, [], [], _, _ => by rw [toPys, PyData.eqvAll, eqTs]
 | n, [], u :: us, _, _ => by rw [toPys, toPys, PyData.eqvAll, eqTs]
 | n, t :: ts, [], _, _ => by rw [toPys, toPys, PyData.eqvAll, eqTs]
 | n, t :: ts, u :: us, h1, h2 => by
  rw [okTs, Bool.and_eq_true] at h1 h2
  rw [toPys, toPys, PyData.eqvAll, eqTs, eqv_of n t u h1.1 h2.1, eqvs_of n ts us h1.2 h2.2]
end
section
variable {X : Cx} {pins : List (Addr × Obj)} {σ : L2.St} {H : Hp} {s : Shared}
mutual
theorem reads_of (I : Inv X pins σ H s) : ∀ (n : Nat) (t : T) (v : V) (u : Value), Rep X.K H t v → RelV v u → okT n t = true → ∃ as, Reads s.heap u (toPy t) as
 | n, .non, v, u, h, r, _ => by cases h.of_non; cases r; rw [toPy]; exact ⟨_, .none⟩
 | n, .bl b, v, u, h, r, _ => by cases h.of_bl; cases r; rw [toPy]; exact ⟨_, .bool b⟩
 | n, .int i, v, u, h, r, _ => by cases h.of_int; obtain ⟨t, rfl⟩ := r; rw [toPy]; exact ⟨_, .int i t⟩
 | n, .str i, v, u, h, r, _ => by cases h.of_str; obtain ⟨t, rfl⟩ := r; rw [toPy]; exact ⟨_, .str i t⟩
 | 0, .lst ts, v, u, h, r, ok => by rw [okT] at ok; cases ok
 | n + 1, .lst ts, v, u, h, r, ok => by
  rw [Rep] at h
  rw [okT] at ok
  obtain ⟨a, vs, rfl, hq, hl⟩ := h
  cases r
  obtain ⟨its, rv, pl, _⟩ := I.list hq
  obtain ⟨o, ho, hc, m, hd⟩ := pl.isList
  obtain ⟨as, ra⟩ := readsAll_of I n ts vs its hl rv ok
  rw [toPy]
  exact ⟨_, .list ho hc hd (by simpa using ra)⟩
 | 0, .tup ts, v, u, h, r, ok => by rw [okT] at ok; cases ok
 | n + 1, .tup ts, v, u, h, r, ok => by
  rw [Rep] at h
  rw [okT] at ok
  obtain ⟨a, vs, rfl, hq, hl⟩ := h
  cases r
  obtain ⟨its, rv, pl, _⟩ := I.tuple hq
  obtain ⟨o, ho, hc, m, hd⟩ := pl
  obtain ⟨as, ra⟩ := readsAll_of I n ts vs its hl rv ok
  rw [toPy]
  exact ⟨_, .tuple ho hc hd (by simpa using ra)⟩
 | n, .dct _, v, u, h, r, ok => by unfold okT at ok; cases ok
 | n, .exc _ _, v, u, h, r, ok => by unfold okT at ok; cases ok
theorem readsAll_of (I : Inv X pins σ H s) : ∀ (n : Nat) (ts : List T) (vs : List V) (us : List Value), RepL X.K H ts vs → Vals vs us → okTs n ts = true → ∃ as, ReadsAll s.heap us (toPys ts) as
 | n, [], vs, us, h, r, _ => by
  rw [RepL] at h; subst h; cases r
  rw [toPys]; exact ⟨_, .nil⟩
 | n, t :: ts, vs, us, h, r, ok => by
  rw [RepL] at h
  obtain ⟨v, vs', rfl, q, hl⟩ := h
  rw [okTs, Bool.and_eq_true] at ok
  cases r with
  | cons r1 r2 =>
   obtain ⟨as, ra⟩ := reads_of I n t v _ q r1 ok.1
   obtain ⟨bs, rb⟩ := readsAll_of I n ts vs' _ hl r2 ok.2
   rw [toPys]
   exact ⟨_, .cons ra rb⟩
end
end
theorem Now.rep {K : PySem.W.Frag} {F H : Hp} {v : V} {t : T} (s : Same F H) (h : Now K F H v t) (hx : ∀ c n, t ≠ .exc c n) : Rep K H t v := by
 cases t with
 | lst ts => rw [Rep]; obtain ⟨a, vs, e, q, r⟩ := h; exact ⟨a, vs, e, q, RepL.mono s _ _ r⟩
 | tup ts => rw [Rep]; obtain ⟨a, vs, e, q, r⟩ := h; exact ⟨a, vs, e, Same.seqT s q, RepL.mono s _ _ r⟩
 | dct ts => rw [Rep]; obtain ⟨a, vs, e, q, r⟩ := h; exact ⟨a, vs, e, q, RepD.mono s _ _ r⟩
 | exc c n => exact absurd rfl (hx c n)
 | _ => exact Rep.mono s _ _ h
noncomputable def rEqT (K : PySem.W.Frag) (neg : Bool) : R2 := fun x y H Q => ∃ t u, Rep K H t x ∧ Rep K H u y ∧ okT 100 t = true ∧ okT 100 u = true ∧ Q (.bl (if neg then !eqT t u else eqT t u)) H
section
variable {X : Cx} {a b c : Expr} {da db dc : D} {pos p p2 : Pos} {k : Nat}
theorem op_eqT (hr : Room k X.A) : OpR X (compareOp .Eq) (rEqT X.K false) := by
 intro pins s σ H x y v u Q I rx ry h
 obtain ⟨t, t', h1, h2, o1, o2, q⟩ := h
 obtain ⟨as, r1⟩ := reads_of I 100 t x v h1 rx o1
 obtain ⟨bs, r2⟩ := reads_of I 100 t' y u h2 ry o2
 obtain ⟨c1, d1⟩ := can_of 100 t o1
 obtain ⟨c2, d2⟩ := can_of 100 t' o2
 refine SeqAt.compareEq_reads r1 r2 c1 c2 (by have := hr.un; lia) ⟨.bl _, H, I, rfl, ?_⟩
 rw [eqv_of 100 t t' o1 o2]
 exact q
theorem op_neT (hr : Room k X.A) : OpR X (compareOp .NotEq) (rEqT X.K true) := by
 intro pins s σ H x y v u Q I rx ry h
 obtain ⟨t, t', h1, h2, o1, o2, q⟩ := h
 obtain ⟨as, r1⟩ := reads_of I 100 t x v h1 rx o1
 obtain ⟨bs, r2⟩ := reads_of I 100 t' y u h2 ry o2
 obtain ⟨c1, d1⟩ := can_of 100 t o1
 obtain ⟨c2, d2⟩ := can_of 100 t' o2
 refine SeqAt.compareNe_reads r1 r2 c1 c2 (by have := hr.un; lia) ⟨.bl _, H, I, rfl, ?_⟩
 rw [eqv_of 100 t t' o1 o2]
 exact q
theorem ok_noexc {n : Nat} {t : T} (h : okT n t = true) : ∀ c m, t ≠ .exc c m := fun c m e => by subst e; unfold okT at h; cases h
theorem sem_eq {K : PySem.W.Frag} : OpSem K (fun x y H Q => rEqT K false x y H Q ∨ rEq x y H Q) fEq := by
 intro F H v u t t' w Q s hv hu hw q
 by_cases hs : ∃ a b, t = .str a ∧ t' = .str b
 ·obtain ⟨a, b, rfl, rfl⟩ := hs
  cases hw
  cases hv.str
  cases hu.str
  refine .inr ⟨rfl, ?_⟩
  have e : decide (V.str a = V.str b) = (a == b) := dec_str
  rw [e]
  exact q _ H F Grow.refl (Rep.bl' _)
 ·have hw : (if okT 100 t = true ∧ okT 100 t' = true then some (T.bl (eqT t t')) else none) = some w := by
   unfold fEq at hw
   split at hw
   ·exact absurd ⟨_, _, rfl, rfl⟩ hs
   ·exact hw
  by_cases ho : okT 100 t = true ∧ okT 100 t' = true
  ·rw [if_pos ho] at hw
   cases hw
   exact .inl ⟨t, t', hv.rep s (ok_noexc ho.1), hu.rep s (ok_noexc ho.2), ho.1, ho.2, q _ H F Grow.refl (Rep.bl' _)⟩
  ·rw [if_neg ho] at hw; cases hw
theorem sem_ne {K : PySem.W.Frag} : OpSem K (fun x y H Q => rEqT K true x y H Q ∨ rNe x y H Q) fNe := by
 intro F H v u t t' w Q s hv hu hw q
 by_cases hs : ∃ a b, t = .str a ∧ t' = .str b
 ·obtain ⟨a, b, rfl, rfl⟩ := hs
  cases hw
  cases hv.str
  cases hu.str
  refine .inr ⟨rfl, ?_⟩
  have e : decide (V.str a = V.str b) = (a == b) := dec_str
  rw [e]
  exact q _ H F Grow.refl (Rep.bl' _)
 ·have hw : (if okT 100 t = true ∧ okT 100 t' = true then some (T.bl (!eqT t t')) else none) = some w := by
   unfold fNe at hw
   split at hw
   ·exact absurd ⟨_, _, rfl, rfl⟩ hs
   ·exact hw
  by_cases ho : okT 100 t = true ∧ okT 100 t' = true
  ·rw [if_pos ho] at hw
   cases hw
   exact .inl ⟨t, t', hv.rep s (ok_noexc ho.1), hu.rep s (ok_noexc ho.2), ho.1, ho.2, q _ H F Grow.refl (Rep.bl' _)⟩
  ·rw [if_neg ho] at hw; cases hw
theorem ce_eq (hr : Room k X.A) (ha : CE X a da) (hb : CE X b db) : CE X (.Compare a [.Eq] [b] pos) (dBin fEq da db) := ce_cmp ((op_eqT hr).or op_eq) sem_eq (nomark _) ha hb
theorem ct_eq (hr : Room k X.A) (ha : CE X a da) (hb : CE X b db) : CT X (.Compare a [.Eq] [b] pos) (dBin fEq da db) := ct_cmp ((op_eqT hr).or op_eq) sem_eq (nomark _) ha hb
theorem ct_ne (hr : Room k X.A) (ha : CE X a da) (hb : CE X b db) : CT X (.Compare a [.NotEq] [b] pos) (dBin fNe da db) := ct_cmp ((op_neT hr).or op_ne) sem_ne (nomark _) ha hb
noncomputable def TyN (K : PySem.W.Frag) (H : Hp) (v : V) (ty : String) : Prop := match v with
 | .non => ty = "NoneType"
 | .bl _ => ty = "bool"
 | .int _ => ty = "int"
 | .str _ => ty = "str"
 | .ref a => (ty = "list" ∧ ∃ xs, SqL K H a xs) ∨ (ty = "tuple" ∧ ∃ xs, SqT K H a xs) ∨ (ty = "dict" ∧ ∃ kvs, H a = some (.dK kvs))
 | _ => False
theorem call_isT {cn : String} : CallR X (.builtin "isinstance") (fun xs H Q => ∃ v ty r, xs = [v, .ty cn] ∧ TyN X.K H v ty ∧ PySem.W.kitOne X.K (.type ty) (.type cn) = some r ∧ Q (.bl r) H) := by
 intro pins s σ H xs us Q I r h
 obtain ⟨v, ty, b, rfl, hty, e, q⟩ := h
 obtain ⟨u1, u2, rfl, r1, r2⟩ := vals2 r
 have r2 : u2 = Value.type cn := r2
 subst r2
 have fin : ∀ tk, EP X pins σ Q (.bool b) { s with toks := tk } := fun tk => ⟨.bl b, H, I.tok _, rfl, q⟩
 cases v with
 | non => cases (show u1 = Value.none from r1); cases hty; exact PySem.W.kia_one PySem.W.kitx_none I.kIn True.intro e (fun z => nomatch z) fin
 | bl y => cases (show u1 = Value.bool y from r1); cases hty; exact PySem.W.kia_one PySem.W.kitx_bool I.kIn True.intro e (fun z => nomatch z) fin
 | int i => obtain ⟨t, q⟩ := (show ∃ t, u1 = Value.int i t from r1); cases q; cases hty; exact PySem.W.kia_one PySem.W.kitx_int I.kIn True.intro e (fun z => nomatch z) fin
 | str y => obtain ⟨t, q⟩ := (show ∃ t, u1 = Value.str y t from r1); cases q; cases hty; exact PySem.W.kia_one PySem.W.kitx_str I.kIn True.intro e (fun z => nomatch z) fin
 | ref a =>
  cases (show u1 = Value.ref a from r1)
  rcases hty with ⟨rfl, xs, hq⟩ | ⟨rfl, xs, hq⟩ | ⟨rfl, kvs, hq⟩
  ·obtain ⟨its, _, pl, _⟩ := I.list hq
   obtain ⟨o, ho, hc, _⟩ := pl.isList
   exact PySem.W.kia_one PySem.W.kitx_list I.kIn ⟨o, ho, hc⟩ e (fun z => nomatch z) fin
  ·obtain ⟨its, _, pl, _⟩ := I.tuple hq
   obtain ⟨o, ho, hc, _⟩ := pl
   exact PySem.W.kia_one PySem.W.kitx_tuple I.kIn ⟨o, ho, hc⟩ e (fun z => nomatch z) fin
  ·obtain ⟨_, _, vs, _, pz⟩ := (show ObjOk X.prog X.w H s.heap a (.dK kvs) from I.hok a _ hq)
   obtain ⟨o, es, h1, h2, _⟩ := pz
   exact PySem.W.kia_one PySem.W.kitx_dict I.kIn ⟨o, h1, h2.1⟩ e (fun z => nomatch z) fin
 | _ => exact hty.elim
noncomputable def Kd.name : Kd → String
 | .int => "int"
 | .bool => "bool"
 | .str => "str"
 | .list => "list"
 | .tuple => "tuple"
 | .dict => "dict"
noncomputable def kdT : T → String
 | .non => "NoneType"
 | .bl _ => "bool"
 | .int _ => "int"
 | .str _ => "str"
 | .lst _ => "list"
 | .tup _ => "tuple"
 | .dct _ => "dict"
 | .exc _ _ => ""
noncomputable def kitB (x y : String) : Option Bool := if (Value.type x == Value.type y) = true then some true else if PySem.W.kitMeta y = true then (PySem.fastBuiltinMro x).map (·.contains (Value.type y)) else none
noncomputable def kitTbl (x y : String) : Bool := x == y || (x == "bool" && y == "int")
theorem kitB_all : ∀ x ∈ ["NoneType", "bool", "int", "str", "list", "tuple", "dict"], ∀ y ∈ ["int", "bool", "str", "list", "tuple", "dict"], kitB x y = some (kitTbl x y) := by decide +kernel
theorem kit_all {K : PySem.W.Frag} (kd : Kd) (t : T) (hx : ∀ c n, t ≠ .exc c n) : PySem.W.kitOne K (.type (kdT t)) (.type kd.name) = some (isK kd t) := by
 have e : PySem.W.kitOne K (.type (kdT t)) (.type kd.name) = kitB (kdT t) kd.name := rfl
 have h1 : kdT t ∈ ["NoneType", "bool", "int", "str", "list", "tuple", "dict"] := by cases t <;> first | exact absurd rfl (hx _ _) | simp [kdT]
 have h2 : kd.name ∈ ["int", "bool", "str", "list", "tuple", "dict"] := by cases kd <;> simp [Kd.name]
 have h3 : kitTbl (kdT t) kd.name = isK kd t := by cases kd <;> cases t <;> first | exact absurd rfl (hx _ _) | rfl
 rw [e, kitB_all _ h1 _ h2, h3]
theorem ce_isK (kd : Kd) {cn : Str} (hm : X.mg "isinstance" = none) (hm2 : X.mg cn = none) (hv2 : bootBuiltins cn = some (.type kd.name)) (ha : CE X a da) (hn2 : cn ≠ "__name__") (hd2 : (cn == ("__debug__" : Str)) = false) (hg : Gl X "isinstance" := by rfl) (hg2 : Gl X cn := by rfl)
  (hs1 : starEach [a, .Name cn p2] X.env = (false, eval a X.env) :: starEach [.Name cn p2] X.env := by rfl) (hs2 : starEach [.Name cn p2] X.env = (false, eval (.Name cn p2) X.env) :: starEach [] X.env := by rfl) (hpl : (backTo pos (starEach [.Name cn p2] X.env)).any (·.1) = false := by rfl) :
  CE X (.Call (.Name "isinstance" p) [a, .Name cn p2] [] pos) (dIs kd da) :=
 PE.imp (pe_callB call_isT hg hm (by decide +kernel) (pa_cons ha (pa_cons (pe_bltn (v := .ty kd.name) hg2 hm2 hv2 rfl hn2 hd2) pa_nil hs2) hs1) (by decide) (by decide) hs1 hpl) fun σ H Q hX11_ => by
  obtain ⟨F, α, e, μ, S, h⟩ := hX11_
  refine ⟨F, α, e, μ, S, (R.wp_bind h).mono (fun x μ1 h v H1 F1 α1 x1 S1 o1 => ?_) fun _ _ h => h⟩
  obtain ⟨w, h9, post⟩ := R.wp_lift h
  obtain ⟨w', h, rfl⟩ := Option.map_eq_some_iff.mp h9
  have fin : ∀ {v'}, Rep X.K F1 w' v' → Q v' H1 := fun {v'} o => post v' H1 F1 α1 x1 S1 o
  have gen : ∀ t, rd μ1 x = some t → isT kd t = some w' → ∃ v' ty r, [v, V.ty kd.name] = [v', .ty kd.name] ∧ TyN X.K H1 v' ty ∧ PySem.W.kitOne X.K (.type ty) (.type kd.name) = some r ∧ Q (.bl r) H1 := fun t hr h => by
   have nt := now_of S1.st o1 hr
   have hx : ∀ c n, t ≠ .exc c n := fun c n z => by subst z; cases h
   have ew : w' = .bl (isK kd t) := by
    cases t <;> first | exact (Option.some.inj h).symm | cases h
   subst ew
   refine ⟨v, kdT t, _, rfl, ?_, kit_all kd t hx, fin (Rep.bl' _)⟩
   cases t with
   | non => rw [show v = .non from Rep.of_non (K := X.K) (F := F1) nt]; rfl
   | bl b => rw [nt.bl]; rfl
   | int b => rw [nt.int]; rfl
   | str b => rw [nt.str]; rfl
   | lst ts => obtain ⟨a, vs, rfl, hq, _⟩ := nt.lst_; exact .inl ⟨rfl, vs, hq⟩
   | tup ts => obtain ⟨a, vs, rfl, hq, _⟩ := nt.tup_; exact .inr (.inl ⟨rfl, vs, Same.seqT S1.st.ext hq⟩)
   | dct ts => obtain ⟨a, vs, rfl, hq, _⟩ := nt; exact .inr (.inr ⟨rfl, vs, hq⟩)
   | exc c n => exact absurd rfl (hx c n)
  cases x with
  | val t => exact gen t rfl h
  | cel j =>
   cases q : rd μ1 (.cel j) with
   | none => rw [isS_cel, q] at h; cases h
   | some t => exact gen t q (by rw [isS_cel, q] at h; exact h)
  | box xs =>
   cases h
   obtain ⟨a, vs, rfl, hq, _⟩ := o1
   exact ⟨_, "tuple", _, rfl, .inr (.inl ⟨rfl, vs, Same.seqT S1.st.ext hq⟩), kit_all kd (.tup []) (fun c n z => by cases z), fin (Rep.bl' _)⟩
theorem ce_is_int (hm : X.mg "isinstance" = none) (hm2 : X.mg "int" = none) (ha : CE X a da) (hg : Gl X "isinstance" := by rfl) (hg2 : Gl X "int" := by rfl)
  (hs1 : starEach [a, .Name "int" p2] X.env = (false, eval a X.env) :: starEach [.Name "int" p2] X.env := by rfl) (hs2 : starEach [.Name "int" p2] X.env = (false, eval (.Name "int" p2) X.env) :: starEach [] X.env := by rfl) (hpl : (backTo pos (starEach [.Name "int" p2] X.env)).any (·.1) = false := by rfl) :
  CE X (.Call (.Name "isinstance" p) [a, .Name "int" p2] [] pos) (dIs .int da) := ce_isK .int hm hm2 (by decide +kernel) ha (by decide +kernel) (by decide +kernel) hg hg2 hs1 hs2 hpl
theorem ce_is_bool (hm : X.mg "isinstance" = none) (hm2 : X.mg "bool" = none) (ha : CE X a da) (hg : Gl X "isinstance" := by rfl) (hg2 : Gl X "bool" := by rfl)
  (hs1 : starEach [a, .Name "bool" p2] X.env = (false, eval a X.env) :: starEach [.Name "bool" p2] X.env := by rfl) (hs2 : starEach [.Name "bool" p2] X.env = (false, eval (.Name "bool" p2) X.env) :: starEach [] X.env := by rfl) (hpl : (backTo pos (starEach [.Name "bool" p2] X.env)).any (·.1) = false := by rfl) :
  CE X (.Call (.Name "isinstance" p) [a, .Name "bool" p2] [] pos) (dIs .bool da) := ce_isK .bool hm hm2 (by decide +kernel) ha (by decide +kernel) (by decide +kernel) hg hg2 hs1 hs2 hpl
theorem ce_is_list (hm : X.mg "isinstance" = none) (hm2 : X.mg "list" = none) (ha : CE X a da) (hg : Gl X "isinstance" := by rfl) (hg2 : Gl X "list" := by rfl)
  (hs1 : starEach [a, .Name "list" p2] X.env = (false, eval a X.env) :: starEach [.Name "list" p2] X.env := by rfl) (hs2 : starEach [.Name "list" p2] X.env = (false, eval (.Name "list" p2) X.env) :: starEach [] X.env := by rfl) (hpl : (backTo pos (starEach [.Name "list" p2] X.env)).any (·.1) = false := by rfl) :
  CE X (.Call (.Name "isinstance" p) [a, .Name "list" p2] [] pos) (dIs .list da) := ce_isK .list hm hm2 (by decide +kernel) ha (by decide +kernel) (by decide +kernel) hg hg2 hs1 hs2 hpl
end
end Fw
namespace Fw
open PySem PySem.Spec PyProof.Rows L2
theorem asInts_eq : ∀ {ts : List T} {bs : List Int}, asInts ts = some bs → ts = bs.map T.int
 | [], bs, h => by cases h; rfl
 | t :: ts, bs, h => by
  cases t with
  | int b =>
   obtain ⟨cs, h1, rfl⟩ := Option.map_eq_some_iff.mp (show (asInts ts).map (fun bs => b :: bs) = some bs from h)
   rw [asInts_eq h1]; rfl
  | _ => cases h
theorem RepL.ints' {K : PySem.W.Frag} {F : Hp} : ∀ {bs : List Int} {vs : List V}, RepL K F (bs.map T.int) vs → vs = bs.map V.int
 | [], vs, h => by rw [List.map_nil, RepL] at h; exact h
 | b :: bs, vs, h => by
  rw [List.map_cons, RepL] at h
  obtain ⟨v, vs', rfl, q, r⟩ := h
  rw [r.ints', q.of_int]; rfl
section
variable {X : Cx} {a b c : Expr} {da db dc : D} {pos p p2 : Pos} {k : Nat}
theorem call_sumI (hr : Room k X.A) : CallR X (.builtin "sum") (fun xs H Q => ∃ (p : Addr) (ns : List Int), xs = [.ref p] ∧ SqL X.K H p (ns.map V.int) ∧ Q (.int ns.sum) H) := by
 intro pins s σ H xs us Q I r h
 obtain ⟨p, ns, rfl, hq, q⟩ := h
 obtain ⟨u, rfl, ru⟩ := vals1 r
 cases ru
 obtain ⟨its, rv, pl, hz⟩ := I.list hq
 have hi : IntsAre its ns := intsAre_of rv
 have hall : AllInts its.toArray := hi.allInts
 obtain ⟨xs, hxs⟩ := hall.items
 rw [hxs] at pl
 refine sum_intListG hr.hd pl.isList fun h' tk t' hk => ⟨.int ns.sum, H, I.kept (t' := tk) hk, ⟨t', ?_⟩, q⟩
 rw [preSum_eq, List.take_of_length_le (by simp)]
 have e1 := hi.numsOf
 have e2 : its = (intItems xs).toList := by rw [← hxs]
 rw [e2, nums_intItems] at e1
 rw [e1]
theorem ce_sum (hr : Room k X.A) (hm : X.mg "sum" = none) (ha : CE X a da) (hg : Gl X "sum" := by rfl) (hs1 : starEach [a] X.env = (false, eval a X.env) :: starEach [] X.env := by rfl) (hpl : (backTo pos (starEach [] X.env)).any (·.1) = false := by rfl) :
  CE X (.Call (.Name "sum" p) [a] [] pos) (dUn fSum da) := ce_blt1 (call_sumI hr) (by
 intro F H v t w Q s hv hw q
 cases t with
 | lst ts =>
  obtain ⟨bs, h1, rfl⟩ := Option.map_eq_some_iff.mp (show (asInts ts).map _ = some w from hw)
  obtain ⟨a, vs, rfl, hq, hl⟩ := hv.lst_
  rw [asInts_eq h1] at hl
  rw [hl.ints'] at hq
  exact ⟨a, bs, rfl, hq, q _ H F Grow.refl (Rep.int' _)⟩
 | _ => cases hw) hm (by decide +kernel) ha hg (by decide) (by decide) hs1 hpl
theorem ce_tuple (hm : X.mg "tuple" = none) (ha : CE X a da) (hg : Gl X "tuple" := by rfl) (hs1 : starEach [a] X.env = (false, eval a X.env) :: starEach [] X.env := by rfl) (hpl : (backTo pos (starEach [] X.env)).any (·.1) = false := by rfl) :
  CE X (.Call (.Name "tuple" p) [a] [] pos) (dUn fTuple da) := ce_ty1 call_tuple_of (by
 intro F H v t w Q s hv hw q
 cases t with
 | lst ts =>
  cases hw
  obtain ⟨a, vs, rfl, hq, hl⟩ := hv.lst_
  exact ⟨a, vs, rfl, .inl ⟨hq, fun l hp => new_tup s hp hl q⟩⟩
 | tup ts =>
  cases hw
  obtain ⟨a, vs, rfl, hq, hl⟩ := hv.tup_
  exact ⟨a, vs, rfl, .inr ⟨Same.seqT s hq, q _ H F Grow.refl (rep_tup hq hl)⟩⟩
 | _ => cases hw) hm (by decide +kernel) ha hg (by decide) (by decide) hs1 hpl
theorem cf_list (hm : X.mg "list" = none) (ha : CE X a da) (hg : Gl X "list" := by rfl) (hs1 : starEach [a] X.env = (false, eval a X.env) :: starEach [] X.env := by rfl) (hpl : (backTo pos (starEach [] X.env)).any (·.1) = false := by rfl) :
  CF X (.Call (.Name "list" p) [a] [] pos) (dUn fList da) := cf_ty1 call_list_of (by
 intro F H v t w Q s hv hw q
 cases t with
 | lst ts =>
  cases hw
  obtain ⟨a, vs, rfl, hq, hl⟩ := hv.lst_
  exact ⟨a, vs, rfl, .inl hq, fun l hp => q l _ hp ⟨vs, upd_same, hl⟩⟩
 | tup ts =>
  cases hw
  obtain ⟨a, vs, rfl, hq, hl⟩ := hv.tup_
  exact ⟨a, vs, rfl, .inr (Same.seqT s hq), fun l hp => q l _ hp ⟨vs, upd_same, hl⟩⟩
 | _ => cases hw) hm (by decide +kernel) ha hg (by decide) (by decide) hs1 hpl
theorem cf_dct : CF X (.Dict [] [] pos) (dC (.dct [])) := by
 refine ⟨PE.imp pe_dnewK fun σ H Q ⟨F, α, e, μ, S, h⟩ => ?_, fun e μ x μ' h => ?_⟩
 ·obtain ⟨t, et, post⟩ := h
  cases et
  intro d hd
  exact post d _ F α (Ex.lay hd) (S.of (Same.refl _) (List.prefix_refl _) (S.st.lay hd)) hd (S.st.ext.free hd) (not_mem_of_none S.st hd) ⟨[], upd_same, by rw [RepD]⟩
 ·cases h; exact ⟨_, rfl⟩
theorem cf_rep {es : List Expr} {ds : List D} (h : CA X es ds) (hb : CE X b db) (hl : ds.length ≤ 1000 := by decide) : CF X (.BinOp (.List es p) .Mult b pos) (dRep fRep ds db) := by
 refine ⟨PE.imp (pe_op op_rep (pe_lst h) hb) fun σ H Q ⟨F, α, e, μ, S, h⟩ => ?_, fun e μ x μ' h => ?_⟩
 ·refine ⟨F, α, e, μ, S, (dArgs_wp_len (R.wp_bind h)).mono (fun xs μ1 ⟨hn, h⟩ vs H1 F1 α1 x1 S1 o1 => ?_) fun _ _ h => h⟩
  have h := R.wp_bind h
  cases hz : frzs xs μ1 with
  | err c μ2 => exact absurd hz (frzs_no xs μ1 c μ2)
  | bad => rw [hz] at h; exact h.elim
  | ok ts μ2 =>
   rw [hz] at h
   obtain ⟨F2, s2, n2, S2, r2⟩ := frzs_ok S1.st o1 hz
   refine ⟨small_len hn o1 hl, fun l hp => ?_⟩
   have x2 : Ex F α H F2 α1 (upd H1 l (.lst vs)) := x1.trans ((Ex.of_ne s2 n2).trans (Ex.lay hp))
   refine ⟨F2, α1, e, μ2, S1.of s2 (List.prefix_refl _) (S2.lay hp), (R.wp_bind h).mono (fun y μ3 h v3 H3 F3 α3 x3 S3 o3 => ?_) fun _ _ h => h.mono x2⟩
   obtain ⟨w, h9, t', e1, post⟩ := R.wp_lift h
   obtain ⟨t, w', ht, h, e2⟩ := ap1_eq h9
   subst e1
   cases e2
   cases t with
   | int i =>
    cases (now_of S3.st o3 ht).int
    have h : (if -(2 ^ 63) ≤ i ∧ i < 2 ^ 63 ∧ ts.length * i.toNat ≤ szL then some (T.lst (List.replicate i.toNat ts).flatten) else none) = some t' := h
    by_cases hc : -(2 ^ 63) ≤ i ∧ i < 2 ^ 63 ∧ ts.length * i.toNat ≤ szL
    ·rw [if_pos hc] at h
     cases h
     obtain ⟨g1, g2, g3⟩ := x3.fr l _ upd_same (S2.ext.free hp) (not_mem_of_none S2 hp)
     refine ⟨l, i, vs, rfl, rfl, g1, hc.1, hc.2.1, by rw [← r2.length]; exact hc.2.2, fun p' hp' => ?_⟩
     exact post p' _ F3 α3 ((x2.trans x3).trans (Ex.lay hp')) (S3.of (Same.refl _) (List.prefix_refl _) (S3.st.lay hp')) ((x2.trans x3).was S3.st hp') (S3.st.ext.free hp') (not_mem_of_none S3.st hp')
      ⟨_, upd_same, (RepL.mono x3.same _ _ r2).flat i.toNat⟩
    ·rw [if_neg hc] at h; cases h
   | _ => cases h
 ·unfold dRep at h
  obtain ⟨xs, μ1, hx, h⟩ := R.bind_eq_ok h
  obtain ⟨ts, μ2, hz, h⟩ := R.bind_eq_ok h
  obtain ⟨y, μ3, hy, h⟩ := R.bind_eq_ok h
  obtain ⟨h9, rfl⟩ := R.lift_eq_ok h
  obtain ⟨t, w', ht, h, rfl⟩ := ap1_eq h9
  exact ⟨_, rfl⟩
theorem cs_append {o e1 : Expr} {do_ de : D} {apos cpos : Pos} (ho : CE X o do_) (he : CE X e1 de) (hbase : attributeBase o "append" X.env (eval o X.env) = eval o X.env := by rfl)
  (hfew : ((backTo cpos (starEach [e1] X.env)).all (fun x => !x.1) && (backToKw cpos (keywordEach [] X.env)).all (fun x => x.1.isSome) && decide (([e1] : List Expr).length + ([] : List Keyword).length + (if ([] : List Keyword).isEmpty then 0 else 1) < 30)) = true := by rfl)
  (hline : (apos.endLine == cpos.line) = true := by rfl) (hs1 : starEach [e1] X.env = (false, eval e1 X.env) :: starEach [] X.env := by rfl) (hpl : (backTo cpos (starEach [] X.env)).any (·.1) = false := by rfl)
  (hs : swapsWith (.Call (.Attribute o "append" apos) [e1] [] cpos) none pos.line X.env = pure false := by rfl) :
  CS X (.Expr (.Call (.Attribute o "append" apos) [e1] [] cpos) pos) (sAppend do_ de) :=
 PS.imp (ps_expr (pe_bm PySem.F.plainAttrs_list PySem.F.slot_list_append PySem.F.type_list_append mt_append ho (ca_cons he ca_nil hs1) hbase hfew hline hs1 hpl) hs) fun D σ H hX11_ => by
  obtain ⟨F, α, e, μ, S, h⟩ := hX11_
  refine ⟨F, α, e, μ, S, (PostS.toS h).mono (fun x μ1 h v H1 F1 α1 x1 S1 o1 => ?_) fun _ _ h => h⟩
  obtain ⟨_, hl, h⟩ := h.lift
  cases x with
  | cel j =>
   obtain ⟨ad, ha, rfl⟩ := o1
   have hc : ∃ bb ts, μ1[j]? = some (bb, .lst ts) := by
    unfold lsts at hl
    simp only at hl
    split at hl
    ·exact ⟨_, _, by assumption⟩
    ·cases hl
   obtain ⟨bb, ts, hj⟩ := hc
   have n1 := now_of S1.st (x := .cel j) (t := .lst ts) ⟨ad, ha, rfl⟩ (by rw [rd_cel, hj]; rfl)
   obtain ⟨a', vs, e1, hq, _⟩ := n1.lst_
   cases e1
   refine ⟨.inl ⟨rfl, vs, hq⟩, args1 ⟨F1, α1, e, μ1, S1, (PostS.toS h).mono (fun y μ2 h v2 H2 F2 α2 x2 S2 o2 => ?_) fun _ _ h => h.mono x1⟩⟩
   have h := h.toS
   cases hz : frz y μ2 with
   | err c μ3 => exact absurd hz (frz_no y μ2 c μ3)
   | bad => rw [hz] at h; exact h.elim
   | ok t μ3 =>
    rw [hz] at h
    obtain ⟨μ4, ha4, h⟩ := PostS.lift h
    obtain ⟨F3, s3, n3, S3, r3⟩ := frz_ok S2.st o2 hz
    unfold appendAt at ha4
    simp only at ha4
    have hc : ∃ us, μ3[j]? = some (true, .lst us) ∧ us.length < szL ∧ μ4 = μ3.set j (true, .lst (us ++ [t])) := by
     split at ha4
     ·rename_i us hjs
      by_cases hu : us.length < szL
      ·rw [if_pos hu] at ha4
       cases ha4
       exact ⟨us, hjs, hu, rfl⟩
      ·rw [if_neg hu] at ha4; cases ha4
     ·cases ha4
    obtain ⟨us, hj3, hu, rfl⟩ := hc
    have ha3 : α2[j]? = some ad := pre_get x2.pre ha
    obtain ⟨_, ws, hw, rw'⟩ := (S3.cell j true _ ad hj3 ha3).1 rfl
    have el := rw'.length
    refine ⟨ad, ws, v2, rfl, rfl, hw, by rw [szL_eq] at hu; omega, ?_⟩
    have x3 : Ex F α H F3 α2 H2 := x1.trans (x2.trans (Ex.of_ne s3 n3))
    exact h σ _ F3 α2 (x3.trans (Ex.put ha3)) ((S2.of s3 (List.prefix_refl _) S3).of (Same.refl _) (List.prefix_refl _) (put_ok S3 hj3 ha3 ⟨_, upd_same, rw'.append (RepL.one r3)⟩))
  | val t => cases hl
  | box xs => cases hl
end
end Fw
namespace L2
open PySem PySem.Spec PyProof.Rows
noncomputable def KIt (k : Bool) (h : Heap) (i l : Addr) (n : Nat) : Prop := match k with
 | true => h.IsListIter i l n
 | false => h.IsTupleIter i l n
noncomputable def KSq (k : Bool) (h : Heap) (l : Addr) (xs : Array Value) : Prop := match k with
 | true => h.IsList l xs
 | false => h.IsTuple l xs
theorem KIt.at {k : Bool} {h h' : Heap} {i l : Addr} {n : Nat} (x : KIt k h i l n) (e : ∀ o, h.get? i = some o → h'.get? i = some o) : KIt k h' i l n := by
 cases k with
 | true => exact Heap.IsListIter.at x e
 | false => exact Heap.IsTupleIter.at x e
theorem KSq.at {k : Bool} {h h' : Heap} {l : Addr} {xs : Array Value} (x : KSq k h l xs) (e : ∀ o, h.get? l = some o → h'.get? l = some o) : KSq k h' l xs := by
 cases k with
 | true => exact Heap.IsList.at x e
 | false => exact Heap.IsTuple.at x e
theorem KIt.ob {k : Bool} {h : Heap} {i l : Addr} {n : Nat} (x : KIt k h i l n) : ∃ o, h.get? i = some o ∧ o.data = .fields #[.ref l, .int n 0] := by
 cases k with
 | true => obtain ⟨o, a, _, b⟩ := x; exact ⟨o, a, b⟩
 | false => obtain ⟨o, a, _, b⟩ := x; exact ⟨o, a, b⟩
section
variable {prog : Program} {w : World} {A : Around} {E : Value → Shared → Prop} {s : Shared}
theorem nextT_item {it t : Addr} {i : Nat} {items : Array Value} {x : Value} {Q : Value → Shared → Prop} (hit : s.heap.IsTupleIter it t i) (ht : s.heap.IsTuple t items) (hx : items[i]? = some x)
  (hQ : ∀ h', h'.IsTupleIter it t (i + 1) → Heap.SameBut it s.heap h' → Q x { s with heap := h' }) : wpAny (model prog w) A (Builtin.SmallTypes.nextOf (.ref it)) Q E s := by
 obtain ⟨⟨o, ho, hc, hd⟩, ⟨ol, hol, _, nl, hdl⟩⟩ := And.intro (id hit) ht
 unfold Builtin.SmallTypes.nextOf
 refine wpAny_bind (wpAny_callSpecial?_slot (name := Str.ofString "__next__") hit.typeIs F.slot_tuple_iterator_next (wpAny_call_entry F.slot_tuple_iterator_next hit.typeIs F.entry_tuple_iterator_next ?_ (F.args_tuple_iterator_next_1 _)))
 show wpAny _ _ (field (.ref it) 0 >>= _) _ _ s; refine wpAny_bind (wpAny_field ho hd (x := .ref t) rfl ?_)
 show wpAny _ _ (if (Value.ref t == Value.none) = true then _ else _) _ _ s; rw [if_neg (show ¬ ((Value.ref t == Value.none) = true) from Bool.false_ne_true)]
 show wpAny _ _ (field (.ref it) 1 >>= _) _ _ s; refine wpAny_bind (wpAny_field ho hd (x := .int i 0) rfl ?_)
 show wpAny _ _ (seqItems? (.ref t) >>= _) _ _ s; refine wpAny_bind (wpAny_seqItems hol hdl ?_)
 simp only [Int.toNat_natCast, hx]; refine wpAny_bind (wpAny_setField ho hd (by simp) (wpAny_pure ⟨x, rfl, wpAny_pure (hQ _ ?_ (Heap.SameBut.update ..))⟩))
 exact ⟨_, Heap.get?_update_self _ ho (Obj.isFreed_of_fields (Obj.data_mapFields hd _)), (Obj.cls_mapFields ..).trans hc, by rw [Obj.data_mapFields hd]; simp [rawInt]⟩
theorem nextT_end {it t : Addr} {i : Nat} {items : Array Value} {Q : Value → Shared → Prop} (hh : A.handled = none) (hit : s.heap.IsTupleIter it t i) (ht : s.heap.IsTuple t items) (hx : items[i]? = none)
  (hE : ∀ h' e, Heap.ExtBut it s.heap h' → (∃ o, h'.get? e = some o ∧ o.cls = .type "StopIteration") → E (.ref e) { s with heap := h' }) : wpAny (model prog w) A (Builtin.SmallTypes.nextOf (.ref it)) Q E s := by
 obtain ⟨⟨o, ho, hc, hd⟩, ⟨ol, hol, _, nl, hdl⟩⟩ := And.intro (id hit) ht
 unfold Builtin.SmallTypes.nextOf
 refine wpAny_bind (wpAny_callSpecial?_slot (name := Str.ofString "__next__") hit.typeIs F.slot_tuple_iterator_next (wpAny_call_entry F.slot_tuple_iterator_next hit.typeIs F.entry_tuple_iterator_next ?_ (F.args_tuple_iterator_next_1 _)))
 show wpAny _ _ (field (.ref it) 0 >>= _) _ _ s; refine wpAny_bind (wpAny_field ho hd (x := .ref t) rfl ?_)
 show wpAny _ _ (if (Value.ref t == Value.none) = true then _ else _) _ _ s; rw [if_neg (show ¬ ((Value.ref t == Value.none) = true) from Bool.false_ne_true)]
 show wpAny _ _ (field (.ref it) 1 >>= _) _ _ s; refine wpAny_bind (wpAny_field ho hd (x := .int i 0) rfl ?_)
 show wpAny _ _ (seqItems? (.ref t) >>= _) _ _ s; refine wpAny_bind (wpAny_seqItems hol hdl ?_)
 simp only [Int.toNat_natCast, hx]; refine wpAny_bind (wpAny_rule (wpAny_bind (wpAny_setField ho hd (by simp) ?_)))
 show wpAny _ _ (newExc (.type "StopIteration") [] >>= _) _ _ _; refine wpAny_bind ?_
 simp only [newExc, newTuple]; refine wpAny_bind (wpAny_newObj_type ?_ (by size_fits))
 refine wpAny_bind (m := firstArgMember _ _) (wpAny_of_eq (a := Value.none) (by first | rfl | (simp only [firstArgMember]; rfl)) ?_); refine wpAny_newObj_type ?_ (by size_fits)
 simp only [raiseNew]; refine wpAny_bind (wpAny_handled ?_); first | rw [show A.in1.handled = none from hh] | rw [hh]
 refine wpAny_bind (wpAny_pure (wpAny_throw ?_)); exact hE _ _ (((Heap.SameBut.update ..).extBut.push _).push _) ⟨_, Heap.get?_push_size _ rfl, rfl⟩
theorem nextK_item {k : Bool} {it t : Addr} {i : Nat} {items : Array Value} {x : Value} {Q : Value → Shared → Prop} (hit : KIt k s.heap it t i) (ht : KSq k s.heap t items) (hx : items[i]? = some x)
  (hQ : ∀ h', KIt k h' it t (i + 1) → Heap.SameBut it s.heap h' → Q x { s with heap := h' }) : wpAny (model prog w) A (Builtin.SmallTypes.nextOf (.ref it)) Q E s := by
 cases k with
 | true => exact wpAny_nextOf_list_item hit ht hx hQ
 | false => exact nextT_item hit ht hx hQ
theorem nextK_end {k : Bool} {it t : Addr} {i : Nat} {items : Array Value} {Q : Value → Shared → Prop} (hh : A.handled = none) (hit : KIt k s.heap it t i) (ht : KSq k s.heap t items) (hx : items[i]? = none)
  (hE : ∀ h' e, Heap.ExtBut it s.heap h' → (∃ o, h'.get? e = some o ∧ o.cls = .type "StopIteration") → E (.ref e) { s with heap := h' }) : wpAny (model prog w) A (Builtin.SmallTypes.nextOf (.ref it)) Q E s := by
 cases k with
 | true => exact wpAny_nextOf_list_end hh hit ht hx hE
 | false => exact nextT_end hh hit ht hx hE
theorem zipK_item {k1 k2 : Bool} {z TI TO i1 i2 l1 l2 : Addr} {n1 n2 : Nat} {xs ys : Array Value} {x y a b : Value} {Q : Value → Shared → Prop} (D : ZipApart z TI TO i1 i2 l1 l2)
  (hz : IsZip s.heap z TI TO .none) (hTI : IsPair s.heap TI (.ref i1) (.ref i2)) (hTO : IsPair s.heap TO a b) (h1 : KIt k1 s.heap i1 l1 n1) (h2 : KIt k2 s.heap i2 l2 n2) (hl1 : KSq k1 s.heap l1 xs) (hl2 : KSq k2 s.heap l2 ys) (hx : xs[n1]? = some x) (hy : ys[n2]? = some y)
  (hQ : ∀ h', IsZip h' z TI TO (rawInt s.heap.objs.size) → IsPair h' TO x y → KIt k1 h' i1 l1 (n1 + 1) → KIt k2 h' i2 l2 (n2 + 1) → IsPair h' s.heap.objs.size x y → h'.objs.size = s.heap.objs.size + 1 →
   (∀ c o, c ≠ z → c ≠ TO → c ≠ i1 → c ≠ i2 → s.heap.get? c = some o → h'.get? c = some o) → Q (.ref s.heap.objs.size) { s with heap := h' }) :
  wpAny (model prog w) A (Builtin.«zip.__next__» ⟨[.ref z], []⟩) (fun fin s' => ∃ v, fin = .done (.ret v) ∧ Q v s') E s := by
 show wpAny _ _ (field (.ref z) 2 >>= _) _ _ _; refine wpAny_bind (wpAny_field hz rfl (x := .bool false) rfl ?_)
 show wpAny _ _ (field (.ref z) 3 >>= _) _ _ _; refine wpAny_bind (wpAny_field hz rfl (x := .ref TI) rfl ?_)
 refine wpAny_bind (wpAny_seqItems hTI rfl ?_); show wpAny _ _ (Builtin.SmallTypes.ownedTupleIsFree (.ref z) >>= _) _ _ _; refine wpAny_bind ?_
 unfold Builtin.SmallTypes.ownedTupleIsFree; refine wpAny_bind (wpAny_field hz rfl (x := .none) rfl (wpAny_pure ?_))
 simp only [if_true]; refine wpAny_bind (wpAny_rule ?_); refine wpAny_bind (wpAny_field hz rfl (x := .ref TO) rfl ?_)
 refine wpAny_bind (wpAny_setField_rec hz (by simp) fun g₁ hz₁ hs₁ => ?_); replace hz₁ : IsZip g₁ z TI TO .ellipsis := hz₁
 refine wpAny_bind ?_; simp only [List.zipIdx_cons, List.zipIdx_nil, List.forIn_cons, List.forIn_nil]; refine wpAny_bind (wpAny_bind (wpAny_onRaise ?_))
 show wpAny _ _ (Builtin.SmallTypes.nextOf (.ref i1) >>= _) _ _ _
 refine wpAny_bind (nextK_item (h1.at fun o e => hs₁.extBut _ _ D.i1z e) (hl1.at fun o e => hs₁.extBut _ _ D.l1z e) hx fun g₂ h1₂ hs₂ => wpAny_pure ?_)
 have hTO₂ : IsPair g₂ TO a b := hs₂.extBut _ _ D.TOi1 (hs₁.extBut _ _ D.TOz hTO)
 refine wpAny_bind (wpAny_seqItems hTO₂ rfl ?_); refine wpAny_bind (wpAny_updateSeq_pair hTO₂ fun g₃ hTO₃ hs₃ => ?_)
 replace hTO₃ : IsPair g₃ TO x b := hTO₃; refine wpAny_bind (wpAny_letGo (wpAny_pure ?_)); refine wpAny_bind (wpAny_bind (wpAny_onRaise ?_))
 show wpAny _ _ (Builtin.SmallTypes.nextOf (.ref i2) >>= _) _ _ _
 refine wpAny_bind (nextK_item (h2.at fun o e => hs₃.extBut _ _ D.TOi2.symm (hs₂.extBut _ _ D.i12.symm (hs₁.extBut _ _ D.i2z e))) (hl2.at fun o e => hs₃.extBut _ _ D.l2TO (hs₂.extBut _ _ D.l2i1 (hs₁.extBut _ _ D.l2z e))) hy fun g₄ h2₄ hs₄ => wpAny_pure ?_)
 have hTO₄ : IsPair g₄ TO x b := hs₄.extBut _ _ D.TOi2 hTO₃
 refine wpAny_bind (wpAny_seqItems hTO₄ rfl ?_); refine wpAny_bind (wpAny_updateSeq_pair hTO₄ fun g₅ hTO₅ hs₅ => ?_)
 replace hTO₅ : IsPair g₅ TO x y := hTO₅; refine wpAny_bind (wpAny_letGo (wpAny_pure (wpAny_pure ?_)))
 refine wpAny_bind (wpAny_seqItems hTO₅ rfl ?_); refine wpAny_bind (wpAny_newTuple ?_)
 have hsz : g₅.objs.size = s.heap.objs.size := by rw [hs₅.1, hs₄.1, hs₃.1, hs₂.1, hs₁.1]
 have hz₅ : IsZip g₅ z TI TO .ellipsis := hs₅.extBut _ _ D.TOz.symm (hs₄.extBut _ _ D.i2z.symm (hs₃.extBut _ _ D.TOz.symm (hs₂.extBut _ _ D.i1z.symm hz₁)))
 have hk₅ : ∀ c o, c ≠ z → c ≠ TO → c ≠ i1 → c ≠ i2 → s.heap.get? c = some o → g₅.get? c = some o := fun c o c1 c2 c3 c4 e => hs₅.extBut _ _ c2 (hs₄.extBut _ _ c4 (hs₃.extBut _ _ c2 (hs₂.extBut _ _ c3 (hs₁.extBut _ _ c1 e))))
 have h1₅ : KIt k1 g₅ i1 l1 (n1 + 1) := h1₂.at fun o e => hs₅.extBut _ _ D.TOi1.symm (hs₄.extBut _ _ D.i12 (hs₃.extBut _ _ D.TOi1.symm e))
 have h2₅ : KIt k2 g₅ i2 l2 (n2 + 1) := h2₄.at fun o e => hs₅.extBut _ _ D.TOi2.symm e
 have hzlt : z < g₅.objs.size := Heap.lt_size hz₅
 show wpAny _ _ (Builtin.SmallTypes.ownedTupleHandOut (.ref z) (.ref g₅.objs.size) >>= _) _ _ _; refine wpAny_bind ?_
 unfold Builtin.SmallTypes.ownedTupleHandOut
 have hz₆ : IsZip (g₅.push { cls := .type "tuple", data := .seq #[x, y] }) z TI TO .ellipsis := Heap.get?_push_of_some _ hz₅
 refine wpAny_bind (wpAny_setField_rec hz₆ (by simp) fun g₇ hz₇ hs₇ => ?_); replace hz₇ : IsZip g₇ z TI TO (rawInt g₅.objs.size) := hz₇
 refine wpAny_setField_rec hz₇ (by simp) fun g₈ hz₈ hs₈ => ?_
 replace hz₈ : IsZip g₈ z TI TO (rawInt g₅.objs.size) := hz₈
 have up : ∀ c o, c ≠ z → g₅.get? c = some o → g₈.get? c = some o := fun c o c1 e => hs₈.extBut _ _ c1 (hs₇.extBut _ _ c1 (Heap.get?_push_of_some _ e))
 have hT₈ : IsPair g₈ g₅.objs.size x y := hs₈.extBut _ _ (Nat.ne_of_gt hzlt) (hs₇.extBut _ _ (Nat.ne_of_gt hzlt) (Heap.get?_push_size _ rfl))
 have hz8 : g₈.objs.size = g₅.objs.size + 1 := by rw [hs₈.1, hs₇.1, Heap.size_push]
 rw [hsz] at hz₈ hT₈ hz8
 refine wpAny_pure ⟨_, rfl, ?_⟩
 show Q (.ref g₅.objs.size) _
 rw [hsz]
 exact hQ g₈ hz₈ (up _ _ D.TOz hTO₅) (h1₅.at fun o e => up _ o D.i1z e) (h2₅.at fun o e => up _ o D.i2z e) hT₈ hz8 fun c o c1 c2 c3 c4 e => up c o c1 (hk₅ c o c1 c2 c3 c4 e)
theorem zipK_end {k1 k2 : Bool} {z TI TO i1 i2 l1 l2 : Addr} {n1 n2 : Nat} {xs ys : Array Value} {a b : Value} {Q : Fin → Shared → Prop} (hh : A.handled = none) (D : ZipApart z TI TO i1 i2 l1 l2)
  (hz : IsZip s.heap z TI TO .none) (hTI : IsPair s.heap TI (.ref i1) (.ref i2)) (hTO : IsPair s.heap TO a b) (h1 : KIt k1 s.heap i1 l1 n1) (h2 : KIt k2 s.heap i2 l2 n2) (hl1 : KSq k1 s.heap l1 xs) (hl2 : KSq k2 s.heap l2 ys) (hend : xs[n1]? = none ∨ ys[n2]? = none)
  (hE : ∀ h' e, (∀ c o, c ≠ z → c ≠ TO → c ≠ i1 → c ≠ i2 → s.heap.get? c = some o → h'.get? c = some o) → (∃ o, h'.get? e = some o ∧ o.cls = .type "StopIteration") → E (.ref e) { s with heap := h' }) :
  wpAny (model prog w) A (Builtin.«zip.__next__» ⟨[.ref z], []⟩) Q E s := by
 show wpAny _ _ (field (.ref z) 2 >>= _) _ _ _; refine wpAny_bind (wpAny_field hz rfl (x := .bool false) rfl ?_)
 show wpAny _ _ (field (.ref z) 3 >>= _) _ _ _; refine wpAny_bind (wpAny_field hz rfl (x := .ref TI) rfl ?_)
 refine wpAny_bind (wpAny_seqItems hTI rfl ?_); show wpAny _ _ (Builtin.SmallTypes.ownedTupleIsFree (.ref z) >>= _) _ _ _; refine wpAny_bind ?_
 unfold Builtin.SmallTypes.ownedTupleIsFree; refine wpAny_bind (wpAny_field hz rfl (x := .none) rfl (wpAny_pure ?_))
 simp only [if_true]; refine wpAny_bind (wpAny_rule ?_); refine wpAny_bind (wpAny_field hz rfl (x := .ref TO) rfl ?_)
 refine wpAny_bind (wpAny_setField_rec hz (by simp) fun g₁ hz₁ hs₁ => ?_); replace hz₁ : IsZip g₁ z TI TO .ellipsis := hz₁
 refine wpAny_bind ?_; simp only [List.zipIdx_cons, List.zipIdx_nil, List.forIn_cons, List.forIn_nil]; refine wpAny_bind (wpAny_bind (wpAny_onRaise ?_))
 show wpAny _ _ (Builtin.SmallTypes.nextOf (.ref i1) >>= _) _ _ _
 have h1' := h1.at fun o e => hs₁.extBut _ _ D.i1z e
 have hl1' := hl1.at fun o e => hs₁.extBut _ _ D.l1z e
 cases hx : xs[n1]? with
 | none =>
  refine wpAny_bind (nextK_end hh h1' hl1' hx fun g₂ e hs₂ he => ?_)
  obtain ⟨oe, hoe, hce⟩ := he
  have hz₂ : IsZip g₂ z TI TO .ellipsis := hs₂ _ _ D.i1z.symm hz₁
  have hez : e ≠ z := fun q => by subst q; rw [hz₂] at hoe; cases hoe; simp at hce
  exact wpAny_setField_rec hz₂ (by simp) fun g₃ _ hs₃ => hE g₃ e (fun c o c1 _ c3 _ q => hs₃.extBut _ _ c1 (hs₂ _ _ c3 (hs₁.extBut _ _ c1 q))) ⟨oe, hs₃.extBut _ _ hez hoe, hce⟩
 | some x =>
  have hy : ys[n2]? = none := by
   rcases hend with h | h
   ·rw [hx] at h; cases h
   ·exact h
  refine wpAny_bind (nextK_item h1' hl1' hx fun g₂ h1₂ hs₂ => wpAny_pure ?_)
  have hTO₂ : IsPair g₂ TO a b := hs₂.extBut _ _ D.TOi1 (hs₁.extBut _ _ D.TOz hTO)
  refine wpAny_bind (wpAny_seqItems hTO₂ rfl ?_); refine wpAny_bind (wpAny_updateSeq_pair hTO₂ fun g₃ hTO₃ hs₃ => ?_)
  refine wpAny_bind (wpAny_letGo (wpAny_pure ?_)); refine wpAny_bind (wpAny_bind (wpAny_onRaise ?_))
  show wpAny _ _ (Builtin.SmallTypes.nextOf (.ref i2) >>= _) _ _ _
  refine wpAny_bind (nextK_end hh (h2.at fun o e => hs₃.extBut _ _ D.TOi2.symm (hs₂.extBut _ _ D.i12.symm (hs₁.extBut _ _ D.i2z e))) (hl2.at fun o e => hs₃.extBut _ _ D.l2TO (hs₂.extBut _ _ D.l2i1 (hs₁.extBut _ _ D.l2z e))) hy fun g₄ e hs₄ he => ?_)
  obtain ⟨oe, hoe, hce⟩ := he
  have hz₄ : IsZip g₄ z TI TO .ellipsis := hs₄ _ _ D.i2z.symm (hs₃.extBut _ _ D.TOz.symm (hs₂.extBut _ _ D.i1z.symm hz₁))
  have hez : e ≠ z := fun q => by subst q; rw [hz₄] at hoe; cases hoe; simp at hce
  exact wpAny_setField_rec hz₄ (by simp) fun g₅ _ hs₅ => hE g₅ e (fun c o c1 c2 c3 c4 q => hs₅.extBut _ _ c1 (hs₄ _ _ c4 (hs₃.extBut _ _ c2 (hs₂.extBut _ _ c3 (hs₁.extBut _ _ c1 q))))) ⟨oe, hs₅.extBut _ _ hez hoe, hce⟩
theorem pyNextK_item {k1 k2 : Bool} {z TI TO i1 i2 l1 l2 : Addr} {n1 n2 : Nat} {xs ys : Array Value} {x y a b : Value} {Q : Option Value → Shared → Prop} (D : ZipApart z TI TO i1 i2 l1 l2)
  (hz : IsZip s.heap z TI TO .none) (hTI : IsPair s.heap TI (.ref i1) (.ref i2)) (hTO : IsPair s.heap TO a b) (h1 : KIt k1 s.heap i1 l1 n1) (h2 : KIt k2 s.heap i2 l2 n2) (hl1 : KSq k1 s.heap l1 xs) (hl2 : KSq k2 s.heap l2 ys) (hx : xs[n1]? = some x) (hy : ys[n2]? = some y)
  (hQ : ∀ h', IsZip h' z TI TO (rawInt s.heap.objs.size) → IsPair h' TO x y → KIt k1 h' i1 l1 (n1 + 1) → KIt k2 h' i2 l2 (n2 + 1) → IsPair h' s.heap.objs.size x y → h'.objs.size = s.heap.objs.size + 1 →
   (∀ c o, c ≠ z → c ≠ TO → c ≠ i1 → c ≠ i2 → s.heap.get? c = some o → h'.get? c = some o) → Q (some (.ref s.heap.objs.size)) { s with heap := h' }) : wpAny (model prog w) A (pyNext (.ref z)) Q E s := by
 have hT : s.TypeIs (.ref z) "zip" := ⟨_, hz, rfl⟩
 unfold pyNext
 exact wpAny_bind (wpAny_attempt (wpAny_callSpecial?_slot (name := Str.ofString "__next__") hT F.slot_zip_next (wpAny_call_entry F.slot_zip_next hT F.entry_zip_next
  (zipK_item D hz hTI hTO h1 h2 hl1 hl2 hx hy fun h' a1 a2 a3 a4 a5 a6 a7 => wpAny_pure (hQ h' a1 a2 a3 a4 a5 a6 a7)) (F.args_zip_next_1 _))))
theorem pyNextK_end {k1 k2 : Bool} {z TI TO i1 i2 l1 l2 : Addr} {n1 n2 : Nat} {xs ys : Array Value} {a b : Value} {Q : Option Value → Shared → Prop} (hh : A.handled = none) (D : ZipApart z TI TO i1 i2 l1 l2)
  (hz : IsZip s.heap z TI TO .none) (hTI : IsPair s.heap TI (.ref i1) (.ref i2)) (hTO : IsPair s.heap TO a b) (h1 : KIt k1 s.heap i1 l1 n1) (h2 : KIt k2 s.heap i2 l2 n2) (hl1 : KSq k1 s.heap l1 xs) (hl2 : KSq k2 s.heap l2 ys) (hend : xs[n1]? = none ∨ ys[n2]? = none)
  (hQ : ∀ h', (∀ c o, c ≠ z → c ≠ TO → c ≠ i1 → c ≠ i2 → s.heap.get? c = some o → h'.get? c = some o) → Q none { s with heap := h' }) : wpAny (model prog w) A (pyNext (.ref z)) Q E s := by
 have hT : s.TypeIs (.ref z) "zip" := ⟨_, hz, rfl⟩
 unfold pyNext
 refine wpAny_bind (wpAny_attempt (wpAny_callSpecial?_slot (name := Str.ofString "__next__") hT F.slot_zip_next (wpAny_call_entry F.slot_zip_next hT F.entry_zip_next (zipK_end hh D hz hTI hTO h1 h2 hl1 hl2 hend fun h' e hk he => ?_) (F.args_zip_next_1 _))))
 obtain ⟨o, ho, hc⟩ := he
 refine wpAny_bind (wpAny_isInstance (T := "StopIteration") (b := true) ⟨o, ho, hc⟩ isSubtype_stop ?_); exact wpAny_pure (hQ _ hk)
end
noncomputable def itRec (k : Bool) (l : Addr) : Obj := { cls := .type (if k then "list_iterator" else "tuple_iterator"), data := .fields #[.ref l, .int 0 0] }
noncomputable abbrev zH2 (k1 k2 : Bool) (h : Heap) (l1 l2 : Addr) : Heap := (h.push (itRec k1 l1)).push (itRec k2 l2)
noncomputable abbrev zH4 (k1 k2 : Bool) (h : Heap) (l1 l2 : Addr) : Heap := ((zH2 k1 k2 h l1 l2).push { cls := .type "tuple", data := .seq #[.ref h.objs.size, .ref (h.push (itRec k1 l1)).objs.size] }).push { cls := .type "tuple", data := .seq #[.none, .none] }
noncomputable abbrev zH5 (k1 k2 : Bool) (h : Heap) (l1 l2 : Addr) : Heap := (zH4 k1 k2 h l1 l2).push { cls := .type "zip", data := .fields #[.none, .bool false, .bool false, .ref (zH2 k1 k2 h l1 l2).objs.size, .ref ((zH2 k1 k2 h l1 l2).push { cls := .type "tuple", data := .seq #[.ref h.objs.size, .ref (h.push (itRec k1 l1)).objs.size] }).objs.size] }
set_option maxHeartbeats 4000000 in
theorem zip_new (k1 k2 : Bool) (l1 l2 : Addr) (xs ys : Array Value) :
  Meets (Builtin.«zip.__new__» ⟨[.type "zip", .ref l1, .ref l2], []⟩) (fun _ R s => KSq k1 s.heap l1 xs ∧ KSq k2 s.heap l2 ys ∧ R (.ok (.ret (.ref (zH4 k1 k2 s.heap l1 l2).objs.size))) { s with heap := zH5 k1 k2 s.heap l1 l2 }) :=
 .of_wp fun prog w A R s h => by
  obtain ⟨hp, g, d, tk, os⟩ := s; obtain ⟨hl1, hl2, h⟩ := h
  have hsub := sub_zip
  cases k1 with
  | true =>
   have hL1 : Heap.IsList (Shared.heap ⟨hp, g, d, tk, os⟩) l1 xs := hl1
   cases k2 with
   | true =>
    have hL2 : Heap.IsList (Shared.heap ⟨hp.push { cls := .type "list_iterator", data := .fields #[.ref l1, .int 0 0] }, g, d, tk, os⟩) l2 ys := Heap.IsList.push hl2 _
    wp_walk using wpAny_pyIter_list hL1, wpAny_pyIter_list hL2
    exact ⟨_, rfl, h⟩
   | false =>
    have hL2 : Heap.IsTuple (Shared.heap ⟨hp.push { cls := .type "list_iterator", data := .fields #[.ref l1, .int 0 0] }, g, d, tk, os⟩) l2 ys := Heap.IsTuple.push hl2 _
    wp_walk using wpAny_pyIter_list hL1, wpAny_pyIter_tuple hL2
    exact ⟨_, rfl, h⟩
  | false =>
   have hL1 : Heap.IsTuple (Shared.heap ⟨hp, g, d, tk, os⟩) l1 xs := hl1
   cases k2 with
   | true =>
    have hL2 : Heap.IsList (Shared.heap ⟨hp.push { cls := .type "tuple_iterator", data := .fields #[.ref l1, .int 0 0] }, g, d, tk, os⟩) l2 ys := Heap.IsList.push hl2 _
    wp_walk using wpAny_pyIter_tuple hL1, wpAny_pyIter_list hL2
    exact ⟨_, rfl, h⟩
   | false =>
    have hL2 : Heap.IsTuple (Shared.heap ⟨hp.push { cls := .type "tuple_iterator", data := .fields #[.ref l1, .int 0 0] }, g, d, tk, os⟩) l2 ys := Heap.IsTuple.push hl2 _
    wp_walk using wpAny_pyIter_tuple hL1, wpAny_pyIter_tuple hL2
    exact ⟨_, rfl, h⟩
theorem KIt.new {k : Bool} {h : Heap} {i l : Addr} (e : h.get? i = some (itRec k l)) : KIt k h i l 0 := by
 cases k with
 | true => exact ⟨_, e, rfl, rfl⟩
 | false => exact ⟨_, e, rfl, rfl⟩
section
variable {prog : Program} {w : World} {A : Around} {E : Value → Shared → Prop} {s : Shared}
theorem call_zipK {k1 k2 : Bool} {l1 l2 : Addr} {xs ys : Array Value} {Q : Value → Shared → Prop} (hl1 : KSq k1 s.heap l1 xs) (hl2 : KSq k2 s.heap l2 ys)
  (h : ∀ h', IsZip h' (s.heap.objs.size + 4) (s.heap.objs.size + 2) (s.heap.objs.size + 3) .none → IsPair h' (s.heap.objs.size + 2) (.ref s.heap.objs.size) (.ref (s.heap.objs.size + 1)) → IsPair h' (s.heap.objs.size + 3) .none .none →
   KIt k1 h' s.heap.objs.size l1 0 → KIt k2 h' (s.heap.objs.size + 1) l2 0 → h'.objs.size = s.heap.objs.size + 5 → (∀ c o, s.heap.get? c = some o → h'.get? c = some o) → Q (.ref (s.heap.objs.size + 4)) { s with heap := h' }) :
  wpAny (model prog w) A (call (.type "zip") [.ref l1, .ref l2]) Q E s := by
 refine callType_new F.called_zip (by decide) (F.typeCall_zip_2 _ _) (F.newCall_zip_2 _ _) (fun obj => F.args_object_init_3 obj _ _) F.entry_zip_new (zip_new k1 k2 l1 l2 xs ys) ⟨hl1, hl2, ?_⟩
 have z1 : (s.heap.push (itRec k1 l1)).objs.size = s.heap.objs.size + 1 := Heap.size_push ..
 have z2 : (zH2 k1 k2 s.heap l1 l2).objs.size = s.heap.objs.size + 2 := by rw [Heap.size_push, z1]
 have z3 : ((zH2 k1 k2 s.heap l1 l2).push { cls := .type "tuple", data := .seq #[.ref s.heap.objs.size, .ref (s.heap.push (itRec k1 l1)).objs.size] }).objs.size = s.heap.objs.size + 3 := by rw [Heap.size_push, z2]
 have z4 : (zH4 k1 k2 s.heap l1 l2).objs.size = s.heap.objs.size + 4 := by rw [Heap.size_push, z3]
 have z5 : (zH5 k1 k2 s.heap l1 l2).objs.size = s.heap.objs.size + 5 := by rw [Heap.size_push, z4]
 have g5 : (zH5 k1 k2 s.heap l1 l2).get? (zH4 k1 k2 s.heap l1 l2).objs.size = some _ := Heap.get?_push_size _ rfl
 have g4 : (zH5 k1 k2 s.heap l1 l2).get? ((zH2 k1 k2 s.heap l1 l2).push { cls := .type "tuple", data := .seq #[.ref s.heap.objs.size, .ref (s.heap.push (itRec k1 l1)).objs.size] }).objs.size = some _ := Heap.get?_push_of_some _ (Heap.get?_push_size _ rfl)
 have g3 : (zH5 k1 k2 s.heap l1 l2).get? (zH2 k1 k2 s.heap l1 l2).objs.size = some _ := Heap.get?_push_of_some _ (Heap.get?_push_of_some _ (Heap.get?_push_size _ rfl))
 have g2 : (zH5 k1 k2 s.heap l1 l2).get? (s.heap.push (itRec k1 l1)).objs.size = some (itRec k2 l2) := Heap.get?_push_of_some _ (Heap.get?_push_of_some _ (Heap.get?_push_of_some _ (Heap.get?_push_size _ rfl)))
 have g1 : (zH5 k1 k2 s.heap l1 l2).get? s.heap.objs.size = some (itRec k1 l1) := Heap.get?_push_of_some _ (Heap.get?_push_of_some _ (Heap.get?_push_of_some _ (Heap.get?_push_of_some _ (Heap.get?_push_size _ rfl))))
 show _ ∧ _
 rw [z2, z3, z4] at g5; rw [z1, z2] at g3; rw [z3] at g4; rw [z1] at g2; rw [z4]
 exact ⟨⟨_, g5, rfl⟩, h _ g5 g3 g4 (KIt.new g1) (KIt.new g2) z5 fun c o q =>
  Heap.get?_push_of_some _ (Heap.get?_push_of_some _ (Heap.get?_push_of_some _ (Heap.get?_push_of_some _ (Heap.get?_push_of_some _ q))))⟩
end
end L2
namespace L2
open PySem PySem.Spec PyProof.Rows
noncomputable def KSqV (K : PySem.W.Frag) (k : Bool) (H : Hp) (a : Addr) (xs : List V) : Prop := match k with
 | true => SqL K H a xs
 | false => SqT K H a xs
theorem Inv.ksq {X : Cx} {pins : List (Addr × Obj)} {σ : L2.St} {H : Hp} {s : Shared} {k : Bool} {a : Addr} {xs : List V} (I : Inv X pins σ H s) (h : KSqV X.K k H a xs) : ∃ its : List Value, Vals xs its ∧ KSq k s.heap a its.toArray ∧ xs.length ≤ sizeLine := by
 cases k with
 | true => obtain ⟨its, r, p, z⟩ := I.list h; exact ⟨its, r, p.isList, z⟩
 | false => obtain ⟨its, r, p, z⟩ := I.tuple h; exact ⟨its, r, p, z⟩
theorem Inv.ksq_inj {X : Cx} {pins : List (Addr × Obj)} {σ : L2.St} {H : Hp} {s : Shared} {k : Bool} {a : Addr} {xs ys : List V} (I : Inv X pins σ H s) (h : KSqV X.K k H a xs) (h' : KSqV X.K k H a ys) : xs = ys := by
 cases k with
 | true => exact I.list_inj h h'
 | false => exact I.tuple_inj h h'
noncomputable def Itz (K : PySem.W.Frag) (k1 k2 : Bool) (a b : Addr) : It :=
 ⟨fun i H => ∃ xs ys x y, KSqV K k1 H a xs ∧ KSqV K k2 H b ys ∧ xs[i]? = some x ∧ ys[i]? = some y,
  fun i H v H' => ∃ p x y, v = .ref p ∧ H p = none ∧ H' = upd H p (.tup [x, y]) ∧ (∀ xs, KSqV K k1 H a xs → xs[i]? = some x) ∧ ∀ ys, KSqV K k2 H b ys → ys[i]? = some y,
  fun i H => ∃ xs ys, KSqV K k1 H a xs ∧ KSqV K k2 H b ys ∧ (xs.length ≤ i ∨ ys.length ≤ i)⟩
theorem ksqv_own {X : Cx} {pins : List (Addr × Obj)} {σ : L2.St} {H : Hp} {s : Shared} {k : Bool} {a c : Addr} {xs : List V} (I : Inv X pins σ H s) (h : KSqV X.K k H a xs) (hf : FpOk X pins H c) : a ≠ c := fun e => by
 subst e
 have key : ∀ o, X.K.lookup a = some o → False := fun o hk => by
  have hb := I.ok.mod.kin a o hk
  rcases hf.2.2.2.1 with z | z
  ·exact I.ok.noex a o hb z
  ·exact absurd (Nat.lt_of_lt_of_le (Heap.lt_size hb) (Nat.le_trans I.ok.bsz z)) (Nat.lt_irrefl _)
 cases k with
 | true =>
  rcases h with (h | ⟨o, h⟩) | ⟨o, its, n, hk, _⟩
  ·rw [hf.1] at h; cases h
  ·rw [hf.1] at h; cases h
  ·exact key o hk
 | false =>
  rcases h with (h | ⟨o, h⟩) | ⟨o, its, n, hk, _⟩
  ·rw [hf.1] at h; cases h
  ·rw [hf.1] at h; cases h
  ·exact key o hk
section
variable {X : Cx} {pins : List (Addr × Obj)} {σ : L2.St} {H : Hp} {s : Shared} {h' : Heap} {ch : List Addr}
theorem stay_of {b : Addr} {u o : HO} {H' : Hp} {tr : Addr} (I : Inv X pins σ H s) (k : ∀ b o, b ∉ ch → s.heap.get? b = some o → h'.get? b = some o) (hf : ∀ b ∈ ch, FpOk X pins H b) (e : H b = some u)
  (ho : ∀ c, H c = some (.own b) → H' c = some (.own b)) (ht : ∀ c xs, H c = some (.tup xs) → H' c = some (.tup xs)) : ObjOk X.prog X.w H' h' b u := by
 refine (I.hok b u e).stay (fun c v hc q => k c v (fun z => ?_) q) ho ht
 have hn := (hf c z).1
 rcases hc with rfl | hc
 ·rw [hn] at e; cases e
 ·rw [hn] at hc; cases hc
theorem Inv.turnedN {t' : Nat} (I : Inv X pins σ H s) (k : ∀ b o, b ∉ ch → s.heap.get? b = some o → h'.get? b = some o) (hf : ∀ b ∈ ch, FpOk X pins H b) : Inv X pins σ H { s with heap := h', toks := t' } := by
 refine I.step (g' := s.gens) (d' := s.drawn) (ch := ch) (fun b hb => ⟨(hf b hb).2.2.2.1, (hf b hb).2.1, (hf b hb).2.2.2.2.1, (hf b hb).2.2.2.2.2⟩) (fun b o _ _ hc e _ => k b o hc e) (fun b o _ _ hc e _ => ⟨o.slots, k b o hc e⟩) (fun _ _ _ _ n => n)
  (fun b o hc e => ⟨o, k b o hc e⟩) (fun _ _ e => e) (fun _ _ _ e => e) (fun b ps e => ⟨#[], by rw [e]; simp⟩) (fun m hm => ?_) (fun b u e => stay_of (o := u) (tr := b) I k hf e (fun _ q => q) fun _ _ q => q) I.bare
 obtain ⟨o, es, ep, ho, r⟩ := hm
 exact ⟨o, es, ep, k _ o (fun z => (hf _ z).2.1 rfl) ho, r⟩
theorem Inv.turnedL {o : HO} (I : Inv X pins σ H s) (k : ∀ b o, b ∉ ch → s.heap.get? b = some o → h'.get? b = some o) (hf : ∀ b ∈ ch, FpOk X pins H b) (new : ObjOk X.prog X.w (upd H s.heap.objs.size o) h' s.heap.objs.size o) :
  Inv X pins σ (upd H s.heap.objs.size o) { s with heap := h' } := by
 have hn : H s.heap.objs.size = none := I.hok.fresh (Nat.le_refl _)
 have ne : ∀ {b : Addr} {ob : Obj}, s.heap.get? b = some ob → b ≠ s.heap.objs.size := fun e => Nat.ne_of_lt (Heap.lt_size e)
 refine I.step (g' := s.gens) (d' := s.drawn) (t' := s.toks) (ch := ch) (fun b hb => ⟨(hf b hb).2.2.2.1, (hf b hb).2.1, (hf b hb).2.2.2.2.1, (hf b hb).2.2.2.2.2⟩) (fun b o _ _ hc e _ => k b o hc e) (fun b o _ _ hc e _ => ⟨o.slots, k b o hc e⟩) (fun b ob _ e n => by rw [upd_ne (ne e)]; exact n)
  (fun b o hc e => ⟨o, k b o hc e⟩) (fun b xs q => by rw [upd_ne (ne_of_none q hn)]; exact q) (fun b u xs q => by rw [upd_ne (ne_of_none q hn)]; exact q) (fun b ps q => ⟨#[], by rw [upd_ne (ne_of_none q hn), q]; simp⟩) (fun m hm => ?_) (fun b u e => ?_) I.bare
 ·obtain ⟨o, es, ep, ho, r⟩ := hm
  exact ⟨o, es, ep, k _ o (fun z => (hf _ z).2.1 rfl) ho, r⟩
 ·by_cases hb : b = s.heap.objs.size
  ·subst hb; rw [upd_same] at e; cases e; exact new
  ·rw [upd_ne hb] at e
   exact stay_of (o := u) (tr := b) I k hf e (fun c q => by rw [upd_ne (ne_of_none q hn)]; exact q) fun c xs q => by rw [upd_ne (ne_of_none q hn)]; exact q
end
structure ZSt (k1 k2 : Bool) (z TI TO i1 i2 l1 l2 : Addr) (i : Nat) (h : Heap) : Prop where
 z : IsZip h z TI TO .none
 ti : IsPair h TI (.ref i1) (.ref i2)
 to : ∃ a b, IsPair h TO a b
 one : KIt k1 h i1 l1 i
 two : KIt k2 h i2 l2 i
theorem all5 {P : Addr → Prop} {a b c d e : Addr} (h1 : P a) (h2 : P b) (h3 : P c) (h4 : P d) (h5 : P e) : ∀ x ∈ [a, b, c, d, e], P x := by
 simp [h1, h2, h3, h4, h5]
theorem sub45 {a b c d e x : Addr} (h : x ∈ [a, c, d, e]) : x ∈ [a, b, c, d, e] := by
 simp at h ⊢
 rcases h with h | h | h | h <;> simp [h]
theorem not4 {a b c d x : Addr} (h : x ∉ [a, b, c, d]) : x ≠ a ∧ x ≠ b ∧ x ≠ c ∧ x ≠ d := by
 simpa using h
theorem turn_zip {P : Program} {w : World} {K : PySem.W.Frag} {elts : List Expr} {x1 : Nat} {pos : Pos} {k1 k2 : Bool} {z TI TO i1 i2 l1 l2 : Addr} (d1 : TI ≠ TO) (d2 : i1 ≠ i2) :
    Turn P w K (.Tuple elts x1 pos) (Itz K k1 k2 l1 l2) [z, TI, TO, i1, i2] z (ZSt k1 k2 z TI TO i1 i2 l1 l2) := by
  have ap : ∀ {X : Cx} {pins : List (Addr × Obj)} {σ : L2.St} {H : Hp} {s : Shared} {i : Nat} {xs ys : List V}, X.K = K → Inv X pins σ H s → (∀ b ∈ [z, TI, TO, i1, i2], FpOk X pins H b) → ZSt k1 k2 z TI TO i1 i2 l1 l2 i s.heap → KSqV K k1 H l1 xs → KSqV K k2 H l2 ys → ZipApart z TI TO i1 i2 l1 l2 := by
    intro X pins σ H s i xs ys hK I hf st h1 h2
    subst hK
    obtain ⟨a, b, hto⟩ := st.to
    obtain ⟨o1, e1, q1⟩ := st.one.ob
    obtain ⟨o2, e2, q2⟩ := st.two.ob
    have neP : ∀ {c d : Addr} {o : Obj} {u v : Value} {vs : Array Value}, IsPair s.heap c u v → s.heap.get? d = some o → o.data = .fields vs → c ≠ d := fun {c d o u v vs} hp ho hd e => by
      subst e
      have hp : s.heap.get? c = some { cls := .type "tuple", data := .seq #[u, v] } := hp
      rw [hp] at ho; cases ho; cases hd
    have neZ : ∀ {d : Addr} {l : Addr} {o : Obj} {n : Nat}, s.heap.get? d = some o → o.data = .fields #[.ref l, .int n 0] → d ≠ z := fun {d l o n} ho hd e => by
      subst e
      have hz : s.heap.get? d = some _ := st.z
      rw [hz] at ho; cases ho
      have : (#[Value.none, .bool false, .bool false, .ref TI, .ref TO] : Array Value) = #[.ref l, .int n 0] := by injection hd
      exact absurd (congrArg Array.size this) (by simp)
    have w : ∀ c ∈ [z, TI, TO, i1, i2], l1 ≠ c ∧ l2 ≠ c := fun c hc => ⟨ksqv_own I h1 (hf c hc), ksqv_own I h2 (hf c hc)⟩
    exact { TIz := neP st.ti st.z rfl, TOz := neP hto st.z rfl, i1z := neZ e1 q1, i2z := neZ e2 q2, TITO := d1, TIi1 := neP st.ti e1 q1, TIi2 := neP st.ti e2 q2, TOi1 := neP hto e1 q1, TOi2 := neP hto e2 q2, i12 := d2,
            l1z := (w z (.head _)).1, l1TO := (w TO (.tail _ (.tail _ (.head _)))).1, l1i1 := (w i1 (.tail _ (.tail _ (.tail _ (.head _))))).1, l1i2 := (w i2 (.tail _ (.tail _ (.tail _ (.tail _ (.head _)))))).1, l2z := (w z (.head _)).2, l2TO := (w TO (.tail _ (.tail _ (.head _)))).2, l2i1 := (w i1 (.tail _ (.tail _ (.tail _ (.head _))))).2, l2i2 := (w i2 (.tail _ (.tail _ (.tail _ (.tail _ (.head _)))))).2 }
  refine ⟨by simp, fun i h st => ?_, fun i h h' st k => ?_, ?_, ?_, fun A i s Q E st hq => wpAny_pyIter_zip st.z hq⟩
  · obtain ⟨a, b', hto⟩ := st.to
    obtain ⟨o1, e1, q1⟩ := st.one.ob
    obtain ⟨o2, e2, q2⟩ := st.two.ob
    exact all5 ⟨_, st.z, fun v e => by cases e⟩ ⟨_, st.ti, fun v e => by cases e⟩ ⟨_, hto, fun v e => by cases e⟩ ⟨_, e1, fun v e => by rw [q1] at e; cases e⟩ ⟨_, e2, fun v e => by rw [q2] at e; cases e⟩
  · obtain ⟨a, b', hto⟩ := st.to
    exact ⟨k z (.head _) _ st.z, k TI (.tail _ (.head _)) _ st.ti, ⟨a, b', k TO (.tail _ (.tail _ (.head _))) _ hto⟩, st.one.at fun o e => k i1 (.tail _ (.tail _ (.tail _ (.head _)))) o e, st.two.at fun o e => k i2 (.tail _ (.tail _ (.tail _ (.tail _ (.head _))))) o e⟩
  · intro X hP hw hK hc i pins s σ H E I hf st hg
    obtain ⟨xs, ys, x, y, h1, h2, hx, hy⟩ := hg
    have D := ap hK I hf st h1 h2
    subst hP hw hK
    obtain ⟨its1, r1, s1, z1⟩ := I.ksq h1
    obtain ⟨its2, r2, s2, z2⟩ := I.ksq h2
    obtain ⟨u, hu, ru⟩ := r1.get hx
    obtain ⟨v, hv, rv⟩ := r2.get hy
    obtain ⟨a, b', hto⟩ := st.to
    refine pyNextK_item D st.z st.ti hto st.one st.two s1 s2 (x := u) (y := v) (by simpa using hu) (by simpa using hv) fun h' g1 g2 g3 g4 g5 g6 g7 => ⟨_, rfl, ?_⟩
    refine wpAny_letOwnedTupleGo_zip g1 fun h'' q1 q2 => ?_
    have lt : ∀ {c : Addr} {o : Obj}, s.heap.get? c = some o → c ≠ s.heap.objs.size := fun e => Nat.ne_of_lt (Heap.lt_size e)
    have hTz : s.heap.objs.size ≠ z := (lt st.z).symm
    obtain ⟨o1, e1, _⟩ := st.one.ob
    obtain ⟨o2, e2, _⟩ := st.two.ob
    have new : IsPair h'' s.heap.objs.size u v := q2.extBut _ _ hTz g5
    refine ⟨.ref s.heap.objs.size, upd H s.heap.objs.size (.tup [x, y]), ?_, rfl, ⟨s.heap.objs.size, x, y, rfl, I.hok.fresh (Nat.le_refl _), rfl, fun ws hw => by rw [I.ksq_inj hw h1]; exact hx, fun ws hw => by rw [I.ksq_inj hw h2]; exact hy⟩, ?_, fun c hcm => ?_⟩
    · refine I.turnedL (ch := [z, TO, i1, i2]) (fun c o hcn e => ?_) (fun c hcm => hf c (sub45 hcm)) ?_
      · have hcn := not4 hcn
        exact q2.extBut _ _ hcn.1 (g7 c o hcn.1 hcn.2.1 hcn.2.2.1 hcn.2.2.2 e)
      · exact ⟨by show 2 ≤ sizeLine; decide, [u, v], .cons ru (.cons rv .nil), ⟨_, new, rfl, 0, rfl⟩⟩
    · exact ⟨q1, q2.extBut _ _ D.TIz (g7 TI _ D.TIz D.TITO D.TIi1 D.TIi2 st.ti), ⟨_, _, q2.extBut _ _ D.TOz g2⟩, g3.at fun o e => q2.extBut _ _ D.i1z e, g4.at fun o e => q2.extBut _ _ D.i2z e⟩
    · rw [upd_ne]
      · exact (hf c hcm).1
      · exact all5 (P := fun c => c ≠ s.heap.objs.size) (lt st.z) (lt st.ti) (lt hto) (lt e1) (lt e2) c hcm
  · intro X hP hw hK hc i pins s σ H E I hf st hg
    obtain ⟨xs, ys, h1, h2, hle⟩ := hg
    have D := ap hK I hf st h1 h2
    subst hP hw hK
    obtain ⟨its1, r1, s1, z1⟩ := I.ksq h1
    obtain ⟨its2, r2, s2, z2⟩ := I.ksq h2
    obtain ⟨a, b', hto⟩ := st.to
    have l1' := r1.length
    have l2' := r2.length
    refine pyNextK_end (I.ok.hd hc) D st.z st.ti hto st.one st.two s1 s2 (by
      rcases hle with q | q
      · exact .inl (by simp; lia)
      · exact .inr (by simp; lia)) fun h' g7 => ⟨rfl, I.turnedN (t' := s.toks) (ch := [z, TO, i1, i2]) (fun c o hcn e => ?_) fun c hcm => hf c (sub45 hcm)⟩
    have hcn := not4 hcn
    exact g7 c o hcn.1 hcn.2.1 hcn.2.2.1 hcn.2.2.2 e
noncomputable def iZipV (K : PySem.W.Frag) (t : TA) : TI := fun σ H R => t σ H fun vs H1 => ∃ a b k1 k2 xs ys, vs = [.ref a, .ref b] ∧ KSqV K k1 H1 a xs ∧ KSqV K k2 H1 b ys ∧ R (Itz K k1 k2 a b) H1
theorem pi_zip {X : Cx} {elts : List Expr} {x1 : Nat} {tpos p pos : Pos} {a b : Expr} {t : TA} (hg : Gl X "zip") (hm : X.mg "zip" = none) (ha : PA X [a, b] t) (he : starEach [a, b] X.env = (false, eval a X.env) :: starEach [b] X.env) (hpl : (backTo pos (starEach [b] X.env)).any (·.1) = false) :
  PI X (.Tuple elts x1 tpos) (.Call (.Name "zip" p) [a, b] [] pos) (iZipV X.K t) := by
 intro pins s σ H R I h
 refine wpAny_Call_Name_kw (ld_blt I hg hm PyProof.Rows.boot_zip ?_ (by decide) (by decide))
 refine PyProof.Rows.callWith_type1 (thn (ha pos pins s σ H _ I h) fun us s1 hX11_ => ?_) he hpl
 obtain ⟨vs, H1, I1, r1, q1⟩ := hX11_
 obtain ⟨c, d, k1, k2, xs, ys, rfl, h1, h2, q⟩ := q1
 obtain ⟨u1, u2, rfl, ru1, ru2⟩ := vals2 r1
 cases ru1
 cases ru2
 obtain ⟨its1, _, s1', _⟩ := I1.ksq h1
 obtain ⟨its2, _, s2', _⟩ := I1.ksq h2
 refine call_zipK s1' s2' fun h' g1 g2 g3 g4 g5 g6 g7 => wpAny_pyIter_zip g1 ?_
 have I2 : Inv X pins σ H1 { s1 with heap := h' } := I1.kept (t' := s1.toks) g7
 refine ⟨_, _, _, _, H1, rfl, I2, turn_zip (k1 := k1) (k2 := k2) (TI := s1.heap.objs.size + 2) (TO := s1.heap.objs.size + 3) (i1 := s1.heap.objs.size) (i2 := s1.heap.objs.size + 1) (l1 := c) (l2 := d) (fun e => by have e : s1.heap.objs.size + 2 = s1.heap.objs.size + 3 := e; lia) (fun e => by have e : s1.heap.objs.size = s1.heap.objs.size + 1 := e; lia), ⟨g1, g2, ⟨_, _, g3⟩, g4, g5⟩, fun e he => ?_, q⟩
 have : s1.heap.objs.size ≤ e := by
  simp only [List.mem_cons, List.not_mem_nil, or_false] at he
  rcases he with rfl | rfl | rfl | rfl | rfl
  ·exact Nat.le_add_right _ _
  ·exact Nat.le_add_right _ _
  ·exact Nat.le_add_right _ _
  ·exact Nat.le_refl _
  ·exact Nat.le_add_right _ _
 exact I1.fpOk this (I1.hok.fresh this)
end L2
namespace Fw
open PySem PySem.Spec PyProof.Rows L2
theorem zipT_get : ∀ {ts us : List T} {i : Nat} {t : T}, (zipT ts us)[i]? = some t → ∃ a b, ts[i]? = some a ∧ us[i]? = some b ∧ t = .tup [a, b]
 | [], us, i, t, h => by simp [zipT] at h
 | a :: ts, [], i, t, h => by simp [zipT] at h
 | a :: ts, b :: us, 0, t, h => by simp [zipT] at h; exact ⟨a, b, rfl, rfl, h.symm⟩
 | a :: ts, b :: us, i + 1, t, h => by
  obtain ⟨c, d, h1, h2, h3⟩ := zipT_get (ts := ts) (us := us) (i := i) (t := t) (by simpa [zipT] using h)
  exact ⟨c, d, by simpa using h1, by simpa using h2, h3⟩
theorem seq_now {K : PySem.W.Frag} {F H : Hp} {v : V} {t : T} {ts : List T} (s : Same F H) (h : Now K F H v t) (e : seqItems t = some ts) : ∃ a vs k, v = .ref a ∧ KSqV K k H a vs ∧ RepL K F ts vs ∧ (k = true ↔ ∃ l, t = .lst l) := by
 cases t with
 | lst us => cases e; obtain ⟨a, vs, rfl, q, r⟩ := h.lst_; exact ⟨a, vs, true, rfl, q, r, by simp⟩
 | tup us => cases e; obtain ⟨a, vs, rfl, q, r⟩ := h.tup_; exact ⟨a, vs, false, rfl, Same.seqT s q, r, by simp⟩
 | _ => cases e
theorem ci_zip {X : Cx} {elts : List Expr} {x1 : Nat} {tpos p pos : Pos} {a b : Expr} {da db : D} (hm : X.mg "zip" = none) (ha : CE X a da) (hb : CE X b db) (hg : Gl X "zip" := by rfl) (hs : starEach [a, b] X.env = (false, eval a X.env) :: starEach [b] X.env := by rfl) (hs2 : starEach [b] X.env = (false, eval b X.env) :: starEach [] X.env := by rfl) (hpl : (backTo pos (starEach [b] X.env)).any (·.1) = false := by rfl) :
  CI X (.Tuple elts x1 tpos) (.Call (.Name "zip" p) [a, b] [] pos) (iZip da db) :=
 PI.imp (pi_zip hg hm (ca_cons ha (ca_cons hb ca_nil hs2) hs) hs hpl) fun σ H R0 hX11_ => by
  obtain ⟨F, α, e, μ, S, h⟩ := hX11_
  refine args2 ⟨F, α, e, μ, S, (R.wp_bind h).mono (fun x μ1 h => (R.wp_bind h).mono (fun y μ2 h v u H1 F1 α1 x1 S1 o1 o2 => ?_) fun _ _ h => h) fun _ _ h => h⟩
  obtain ⟨ts, ht, h⟩ := R.wp_lift (R.wp_bind h)
  obtain ⟨us, hu, post⟩ := R.wp_lift (R.wp_bind h)
  obtain ⟨t, hr, ht⟩ := Option.bind_eq_some_iff.mp ht
  obtain ⟨t2, hr2, hu⟩ := Option.bind_eq_some_iff.mp hu
  obtain ⟨a1, vs1, k1, rfl, q1, r1, m1⟩ := seq_now S1.st.ext (now_of S1.st o1 hr) ht
  obtain ⟨a2, vs2, k2, rfl, q2, r2, m2⟩ := seq_now S1.st.ext (now_of S1.st o2 hr2) hu
  refine ⟨a1, a2, k1, k2, vs1, vs2, rfl, q1, q2, post _ H1 F1 α1 x1 S1 fun F2 α2 μ3 H2 s2 p2 S2 same => ?_⟩
  obtain ⟨e1, e2⟩ := (show rd μ3 x = rd μ2 x ∧ rd μ3 y = rd μ2 y from same)
  obtain ⟨b1, ws1, j1, g1, n1, l1, m1'⟩ := seq_now S2.ext (now_of S2 (o1.mono s2 p2) (e1.trans hr)) ht
  obtain ⟨b2, ws2, j2, g2, n2, l2, m2'⟩ := seq_now S2.ext (now_of S2 (o2.mono s2 p2) (e2.trans hr2)) hu
  cases g1
  cases g2
  have ej1 : j1 = k1 := by rw [Bool.eq_iff_iff, m1, m1']
  have ej2 : j2 = k2 := by rw [Bool.eq_iff_iff, m2, m2']
  subst ej1
  subst ej2
  refine ⟨fun i t hi => ?_, ?_⟩
  ·obtain ⟨c, d, hc, hd, rfl⟩ := zipT_get hi
   obtain ⟨v1, hv1, rv1⟩ := l1.get hc
   obtain ⟨v2, hv2, rv2⟩ := l2.get hd
   refine ⟨⟨ws1, ws2, v1, v2, n1, n2, hv1, hv2⟩, ?_⟩
   rintro z H3 ⟨q, z1, z2, rfl, hq, rfl, f1, f2⟩
   have w1 := f1 ws1 n1
   have w2 := f2 ws2 n2
   rw [hv1] at w1
   rw [hv2] at w2
   cases w1
   cases w2
   have g : Grow F2 H2 (upd F2 q (.tup [v1, v2])) (upd H2 q (.tup [v1, v2])) := Grow.new hq
   refine ⟨_, g, ?_⟩
   rw [Rep]
   exact ⟨q, _, rfl, SqT.of upd_same, RepL.mono (g.same S2.ext) _ _ (.cons' rv1 (.cons' rv2 .nil'))⟩
  ·refine ⟨ws1, ws2, n1, n2, ?_⟩
   have := l1.length
   have := l2.length
   show ws1.length ≤ (zipT ts us).length ∨ ws2.length ≤ (zipT ts us).length
   rw [zipT_len]
   lia
noncomputable def tDO (X : Cx) (o : Option D) : TO := fun σ H Q => ∃ F α e μ, Sim X.K F α e μ σ H ∧ (dOpt o e μ).wp (fun i μ' => ∀ H' F' α', Ex F α H F' α' H' → Sim X.K F' α' e μ' σ H' → Q i H') (XPost X F α H e)
noncomputable def CO (X : Cx) (e : Option Expr) (o : Option D) : Prop := PO X e (tDO X o)
section
variable {X : Cx} {a b : Expr} {da db : D} {pos p2 : Pos}
end
end Fw
namespace Fw
open PySem
noncomputable def asKey : T → Option Key
 | .int i => some (.inl i)
 | .str x => some (.inr x)
 | _ => none
@[simp] theorem asKey_int (i : Int) : asKey (.int i) = some (.inl i) := (rfl)
noncomputable def valT (kts : List (Key × T)) (k : Key) : Option T := (kts.find? fun kv => decide (kv.1 = k)).map (·.2)
noncomputable def putT (kts : List (Key × T)) (k : Key) (t : T) : List (Key × T) :=
 if (kts.any fun kv => decide (kv.1 = k)) = true then kts.map (fun kv => if kv.1 = k then (kv.1, t) else kv) else kts ++ [(k, t)]
noncomputable def fGetD : T → T → Option T
 | .dct kts, u => (asKey u).bind fun k => valT kts k
 | _, _ => none
@[simp] theorem fGetD_int (kts : List (Key × T)) (i : Int) : fGetD (.dct kts) (.int i) = valT kts (.inl i) := (rfl)
noncomputable def fInD : T → T → Option T
 | u, .dct kts => (asKey u).map fun k => .bl (valT kts k).isSome
 | _, _ => none
noncomputable def fNinD : T → T → Option T
 | u, .dct kts => (asKey u).map fun k => .bl (!(valT kts k).isSome)
 | _, _ => none
@[simp] theorem fNinD_int (kts : List (Key × T)) (i : Int) : fNinD (.int i) (.dct kts) = some (.bl (!(valT kts (.inl i)).isSome)) := (rfl)
noncomputable def putAtD (x : SV) (k : T) (t : T) (μ : Store) : Option Store := match x with
 | .cel c => match μ[c]? with
  | some (true, .dct kts) => (asKey k).bind fun kk => if kts.length < szL then some (μ.set c (true, .dct (putT kts kk t))) else none
  | _ => none
 | _ => none
noncomputable def sPutD (i : Nat) (dk dv : D) : DS := fun e μ => (dv e μ).toS e fun y μ1 => (R.lift (slot e i) μ1).toS e fun x μ1 => (dk e μ1).toS e fun z μ2 => (R.lift (rd μ2 z) μ2).toS e fun k μ2 =>
 (frz y μ2).toS e fun t μ3 => (R.lift (putAtD x k t μ3) μ3).toS e fun μ4 _ => .nx e μ4
@[simp] theorem sPutD_is (i : Nat) (dk dv : D) (e : Slots) (μ : Store) : sPutD i dk dv e μ = (dv e μ).toS e fun y μ1 => (R.lift (slot e i) μ1).toS e fun x μ1 => (dk e μ1).toS e fun z μ2 => (R.lift (rd μ2 z) μ2).toS e fun k μ2 =>
 (frz y μ2).toS e fun t μ3 => (R.lift (putAtD x k t μ3) μ3).toS e fun μ4 _ => .nx e μ4 := (rfl)
theorem putAtD_at {μ : Store} {c : Nat} {kts : List (Key × T)} {i : Int} {t : T} (h : μ[c]? = some (true, .dct kts)) (hl : kts.length < szL) : putAtD (.cel c) (.int i) t μ = some (μ.set c (true, .dct (putT kts (.inl i) t))) := by
 unfold putAtD
 simp only [h, asKey_int, Option.bind_some, hl, if_true]
noncomputable def itemsT (kts : List (Key × T)) : List T := kts.map fun p => .tup [keyT p.1, p.2]
noncomputable def asD : T → Option (List (Key × T))
 | .dct kts => some kts
 | _ => none
@[simp] theorem asD_dct (kts : List (Key × T)) : asD (.dct kts) = some kts := (rfl)
noncomputable def iItems (d : D) : DI := fun e μ => (d e μ).bind fun x μ1 => (R.lift ((rd μ1 x).bind asD) μ1).bind fun kts μ1 => .ok ⟨itemsT kts, fun μ' => rd μ' x = rd μ1 x⟩ μ1
@[simp] theorem iItems_is (d : D) (e : Slots) (μ : Store) : iItems d e μ = (d e μ).bind fun x μ1 => (R.lift ((rd μ1 x).bind asD) μ1).bind fun kts μ1 => .ok ⟨itemsT kts, fun μ' => rd μ' x = rd μ1 x⟩ μ1 := (rfl)
end Fw
namespace Fw
open PySem PySem.Spec PyProof.Rows L2
section
variable {X : Cx} {a b c : Expr} {da db dc : D} {pos p p2 : Pos}
theorem cs_setItem (i : Nat) {y : Str} {py tpos : Pos} {ik ev : Expr} {dk dv : D} (hk : CE X ik dk) (hv : CE X ev dv) (hN : X.N[i]? = some y := by rfl)
  (hvs : Vis X.env.scope y := by first | exact Or.inl rfl | exact Or.inr (Or.inl rfl) | exact Or.inr (Or.inr rfl)) (hd : (y == ("__debug__" : Str)) = false := by decide) (hcd : (y == ("__classdict__" : Str)) = false := by decide)
  (ha : ∀ v, assign (.Subscript (.Name y py) ik tpos) X.env v = (do
   let ov ← holding [v] (eval (.Name y py) X.env)
   let iv ← holding [v, ov] (eval ik X.env)
   standAt tpos
   holding [v, ov, iv] (setItem ov iv v)
   release [v, ov, iv] []) := by intro _; rfl)
  (hs : swapsWithSole [.Subscript (.Name y py) ik tpos] ev pos.line X.env = pure false := by rfl) (hw : swappedStores [.Subscript (.Name y py) ik tpos] ev X.env = pure none := by rfl)
  (h1 : (assignEach [.Subscript (.Name y py) ik tpos] X.env).map (·.2) = [assign (.Subscript (.Name y py) ik tpos) X.env] := by rfl) :
  CS X (.Assign [.Subscript (.Name y py) ik tpos] ev pos) (sSetItem i dk dv) :=
 PS.imp (ps_asg hv (pg_sub (pe_var hN hvs hd hcd) hk set_list ha) hs hw h1) fun D σ H hX11_ => by
  obtain ⟨F, α, e, μ, S, h⟩ := hX11_
  refine ⟨F, α, e, μ, S, (PostS.toS h).mono (fun y μ1 h v H1 F1 α1 x1 S1 o1 => ?_) fun _ _ h => h⟩
  obtain ⟨x, hx, h⟩ := PostS.lift h
  obtain ⟨ov, hov, oo⟩ := S1.sl i x hx
  refine ⟨ov, hov, F1, α1, e, μ1, S1, (PostS.toS h).mono (fun z μ2 h v2 H2 F2 α2 x2 S2 o2 => ?_) fun _ _ h => h.mono x1⟩
  obtain ⟨k, hk, h⟩ := PostS.lift h
  have h := h.toS
  have nk := now_of S2.st o2 hk
  cases hz : frz y μ2 with
  | err c μ3 => exact absurd hz (frz_no y μ2 c μ3)
  | bad => rw [hz] at h; exact h.elim
  | ok t μ3 =>
   rw [hz] at h
   obtain ⟨μ4, ha4, h⟩ := PostS.lift h
   obtain ⟨F3, s3, n3, S3, r3⟩ := frz_ok S2.st (o1.mono x2.same x2.pre) hz
   cases x with
   | cel j =>
    obtain ⟨ad, had, rfl⟩ := oo
    cases k with
    | int ki =>
     cases nk.int
     unfold setAt at ha4
     simp only at ha4
     have hc : ∃ us jj, μ3[j]? = some (true, .lst us) ∧ Fw.ixN us.length ki = some jj ∧ μ4 = μ3.set j (true, .lst (us.set jj t)) := by
      split at ha4
      ·rename_i us hjs
       obtain ⟨jj, e1, e2⟩ := Option.map_eq_some_iff.mp ha4
       exact ⟨us, jj, hjs, e1, e2.symm⟩
      ·cases ha4
     obtain ⟨us, jj, hj3, hjj, rfl⟩ := hc
     have ha3 : α2[j]? = some ad := pre_get x2.pre had
     obtain ⟨_, ws, hw, rw'⟩ := (S3.cell j true _ ad hj3 ha3).1 rfl
     have el := rw'.length
     refine ⟨ad, ws, ki, jj, rfl, rfl, hw, by rw [← el]; exact hjj, ?_⟩
     have x3 : Ex F α H F3 α2 H2 := x1.trans (x2.trans (Ex.of_ne s3 n3))
     exact h σ _ F3 α2 (x3.trans (Ex.put ha3)) ((S2.of s3 (List.prefix_refl _) S3).of (Same.refl _) (List.prefix_refl _) (put_ok S3 hj3 ha3 ⟨_, upd_same, rw'.set jj r3⟩))
    | _ => unfold setAt at ha4; cases ha4
   | val t => cases k <;> (unfold setAt at ha4; cases ha4)
   | box xs => cases k <;> (unfold setAt at ha4; cases ha4)
theorem chain_read {r r' : R2} {f g : T → T → Option T} (hs : OpSem X.K r f) (hs' : OpSem X.K r' g) (hf : ∀ t u w, f t u = some w → ∃ k, w = .bl k) (σ : L2.St) (H : Hp) (Q : VK) (h : tD X (dChain f g da db dc) σ H Q) : tChain r r' (tD X da) (tD X db) (tD X dc) σ H Q := by
 obtain ⟨F, α, e, μ, S, h⟩ := h
 refine ⟨F, α, e, μ, S, ?_⟩
 refine (R.wp_bind h).mono (fun x μ1 h v H1 F1 α1 x1 S1 o1 => ⟨F1, α1, e, μ1, S1, ?_⟩) fun _ _ h => h
 refine (R.wp_bind h).mono (fun y μ2 h v2 H2 F2 α2 x2 S2 o2 => ?_) fun _ _ h => h.mono x1
 obtain ⟨w, h9, h⟩ := R.wp_lift (R.wp_bind h)
 obtain ⟨t, u, w', ht, hu, hfw, rfl⟩ := ap2_eq h9
 obtain ⟨k, rfl⟩ := hf t u w' hfw
 obtain ⟨k', e1, h⟩ := R.wp_lift (R.wp_bind h)
 cases e1
 refine hs F2 H2 v v2 t u _ _ S2.st.ext (now_of S2.st (o1.mono x2.same x2.pre) ht) (now_of S2.st o2 hu) hfw fun v' H' F' g1 rp => ?_
 have ev : v' = .bl k := Rep.of_bl rp
 subst ev
 have x3 : Ex F α H F' α2 H' := x1.trans (x2.trans (g1.ex S2.st.ext))
 have S3 := S2.grow g1
 refine ⟨k, rfl, ?_⟩
 cases k with
 | false =>
  rw [if_neg (by decide)] at h ⊢
  exact h _ H' F' α2 x3 S3 (Rep.bl' (K := X.K) (F := F') false)
 | true =>
  rw [if_pos rfl] at h ⊢
  refine ⟨F', α2, e, μ2, S3, (R.wp_bind h).mono (fun z μ3 h v3 H3 F3 α3 x4 S4 o4 => ?_) fun _ _ h => h.mono x3⟩
  obtain ⟨w, h9, post⟩ := R.wp_lift h
  obtain ⟨t2, u2, w2, ht2, hu2, hgw, rfl⟩ := ap2_eq h9
  exact hs' F3 H3 v2 v3 t2 u2 w2 Q S4.st.ext (now_of S4.st ((o2.mono (g1.same S2.st.ext) (List.prefix_refl _)).mono x4.same x4.pre) ht2) (now_of S4.st o4 hu2) hgw fun v' H' F' g rp =>
   post v' H' F' α3 (x3.trans (x4.trans (g.ex S4.st.ext))) (S4.grow g) rp
theorem fLe_bl (t u w : T) (h : fLe t u = some w) : ∃ k, w = .bl k := by
 cases t <;> cases u <;> first | (cases h; exact ⟨_, rfl⟩) | cases h
theorem ct_of_ce {t : TE} {d : D} (h : PT X a (tTest t)) (i : ∀ σ H Q, tD X d σ H Q → t σ H Q) : CT X a d := PT.imp h fun σ H Q hX11_ => by
 obtain ⟨F, α, e, μ, S, q⟩ := hX11_
 refine i σ H _ ⟨F, α, e, μ, S, q.mono (fun x μ1 hX21_ v H1 F1 α1 x1 S1 o1 => ?_) fun _ _ h => h⟩
 obtain ⟨k, e1, q⟩ := hX21_
 subst e1
 exact ⟨k, Rep.of_bl (K := X.K) (F := F1) o1, q H1 F1 α1 x1 S1⟩
theorem ct_chain_le_lt (ha : CE X a da) (hb : CE X b db) (hc : CE X c dc) (hm : lastMarks [.LtE, .Lt] [b, c] = false := by with_unfolding_all rfl) : CT X (.Compare a [.LtE, .Lt] [b, c] pos) (dChain fLe fLt da db dc) :=
 ct_of_ce (pt_chain op_le op_lt ha hb hc hm) (chain_read sem_le sem_lt fLe_bl)
theorem now_non {K : PySem.W.Frag} {F H : Hp} {v : V} {t : T} (h : Now K F H v t) : decide (v = .non) = (match t with | .non => true | _ => false) := by
 cases t with
 | non => have e : v = .non := Rep.of_non (K := K) (F := F) h; subst e; rfl
 | bl b => have e := h.bl; subst e; rfl
 | int b => have e := h.int; subst e; rfl
 | str b => have e := h.str; subst e; rfl
 | lst ts => obtain ⟨a, vs, rfl, _⟩ := h.lst_; rfl
 | tup ts => obtain ⟨a, vs, rfl, _⟩ := h.tup_; rfl
 | dct ts => obtain ⟨a, vs, rfl, _⟩ := h; rfl
 | exc c n => have h : Rep K F (.exc c n) v := h; rw [Rep] at h; obtain ⟨a, rfl, _⟩ := h; rfl
noncomputable def fIsN : T → T → Option T := fun t u => match u with
 | .non => isNon t
 | _ => none
theorem sem_isN {K : PySem.W.Frag} : OpSem K (fun x y H Q => y = .non ∧ Q (.bl (decide (x = .non))) H) fIsN := by
 intro F H v u t t' w Q s hv hu hw q
 cases t' with
 | non =>
  refine ⟨Rep.of_non (K := K) (F := F) hu, ?_⟩
  rw [now_non hv]
  refine q _ H F Grow.refl ?_
  cases t <;> (cases hw; exact Rep.bl' _)
 | _ => cases hw
theorem dUn_isN : dBin fIsN da (dC .non) = dUn isNon da := by
 funext e μ
 rw [dBin_is, dUn_is]
 cases da e μ with
 | ok x μ1 => rw [R.bind_ok, R.bind_ok, dC_is, R.bind_ok]; cases rd μ1 x <;> rfl
 | err c μ1 => rfl
 | bad => rfl
theorem ct_isN {j} (ha : CE X a da) : CT X (.Compare a [.Is] [.Constant .none j p] pos) (dUn isNon da) := dUn_isN ▸ ct_cmp op_isN sem_isN (nomark _) ha ce_non
end
end Fw
namespace Fw
open PySem PySem.Spec PyProof.Rows L2
section
variable {K : PySem.W.Frag} {F : Hp}
theorem RepD.nil' : RepD K F [] [] := by rw [RepD]
theorem RepD.cons' {k : Key} {t : T} {v : V} {kts : List (Key × T)} {kvs : List (Key × V)} (q : Rep K F t v) (r : RepD K F kts kvs) : RepD K F ((k, t) :: kts) ((k, v) :: kvs) := by rw [RepD]; exact ⟨v, kvs, rfl, q, r⟩
theorem valT_pos {p : Key × T} {r : List (Key × T)} {k : Key} (e : p.1 = k) : valT (p :: r) k = some p.2 := by simp [valT, List.find?_cons, e]
theorem valT_neg {p : Key × T} {r : List (Key × T)} {k : Key} (e : ¬ p.1 = k) : valT (p :: r) k = valT r k := by simp [valT, List.find?_cons, e]
theorem RepD.val : ∀ {kts : List (Key × T)} {kvs : List (Key × V)} (k : Key), RepD K F kts kvs → (valT kts k = none ∧ valV kvs k = none) ∨ ∃ t v, valT kts k = some t ∧ valV kvs k = some v ∧ Rep K F t v
 | [], kvs, k, h => by rw [RepD] at h; subst h; exact .inl ⟨rfl, rfl⟩
 | (k0, t) :: kts, kvs, k, h => by
  rw [RepD] at h
  obtain ⟨v, kvs', rfl, q, r⟩ := h
  by_cases e : k0 = k
  ·exact .inr ⟨t, v, valT_pos (p := (k0, t)) e, valV_pos (p := (k0, v)) e, q⟩
  ·rw [valT_neg (p := (k0, t)) e, valV_neg (p := (k0, v)) e]
   exact RepD.val k r
theorem RepD.any : ∀ {kts : List (Key × T)} {kvs : List (Key × V)} (k : Key), RepD K F kts kvs → (kts.any fun kv => decide (kv.1 = k)) = (kvs.any fun kv => decide (kv.1 = k))
 | [], kvs, k, h => by rw [RepD] at h; subst h; rfl
 | (k0, t) :: kts, kvs, k, h => by
  rw [RepD] at h
  obtain ⟨v, kvs', rfl, q, r⟩ := h
  rw [List.any_cons, List.any_cons, RepD.any k r]
theorem RepD.repl {t' : T} {v' : V} (q' : Rep K F t' v') (k : Key) : ∀ {kts : List (Key × T)} {kvs : List (Key × V)}, RepD K F kts kvs → RepD K F (kts.map fun kv => if kv.1 = k then (kv.1, t') else kv) (kvs.map fun kv => if kv.1 = k then (kv.1, v') else kv)
 | [], kvs, h => by rw [RepD] at h; subst h; exact .nil'
 | (k0, t) :: kts, kvs, h => by
  rw [RepD] at h
  obtain ⟨v, kvs', rfl, q, r⟩ := h
  rw [List.map_cons, List.map_cons]
  by_cases e : k0 = k
  ·simp only [e, if_true]
   exact .cons' q' (RepD.repl q' k r)
  ·simp only [e, if_false]
   exact .cons' q (RepD.repl q' k r)
theorem RepD.append : ∀ {kts uts : List (Key × T)} {kvs uvs : List (Key × V)}, RepD K F kts kvs → RepD K F uts uvs → RepD K F (kts ++ uts) (kvs ++ uvs)
 | [], uts, kvs, uvs, h, g => by rw [RepD] at h; subst h; exact g
 | (k0, t) :: kts, uts, kvs, uvs, h, g => by
  rw [RepD] at h
  obtain ⟨v, kvs', rfl, q, r⟩ := h
  exact .cons' q (r.append g)
theorem RepD.put {kts : List (Key × T)} {kvs : List (Key × V)} {t : T} {v : V} (h : RepD K F kts kvs) (k : Key) (q : Rep K F t v) : RepD K F (putT kts k t) (putK kvs k v) := by
 unfold putT putK
 rw [h.any k]
 by_cases e : (kvs.any fun kv => decide (kv.1 = k)) = true
 ·rw [if_pos e, if_pos e]; exact RepD.repl q k h
 ·rw [if_neg e, if_neg e]; exact h.append (.cons' q .nil')
theorem key_now {H : Hp} {v : V} {t : T} {k : Key} (h : Now K F H v t) (e : asKey t = some k) : v = kV k := by
 cases t with
 | int i => cases e; exact h.int
 | str x => cases e; exact h.str
 | _ => cases e
end
section
variable {X : Cx} {a b c : Expr} {da db dc : D} {pos p p2 : Pos} {k : Nat}
theorem units_of (hr : Room k X.A) : X.A.units + 1 < cLine := by have := hr.units; omega
theorem getD_read (σ : L2.St) (H : Hp) (Q : VK) (h : tD X (dBin fGetD da db) σ H Q) : tDGet (tD X da) (tD X db) σ H Q := by
 obtain ⟨F, α, e, μ, S, h⟩ := h
 refine ⟨F, α, e, μ, S, ?_⟩
 refine (R.wp_bind h).mono (fun x μ1 h v H1 F1 α1 x1 S1 o1 => ⟨F1, α1, e, μ1, S1, ?_⟩) fun _ _ h => h
 refine (R.wp_bind h).mono (fun y μ2 h v2 H2 F2 α2 x2 S2 o2 => ?_) fun _ _ h => h.mono x1
 obtain ⟨w, h9, post⟩ := R.wp_lift h
 obtain ⟨t, u, w', ht, hu, h, rfl⟩ := ap2_eq h9
 have n1 := now_of S2.st (o1.mono x2.same x2.pre) ht
 have n2 := now_of S2.st o2 hu
 cases t with
 | dct kts =>
  obtain ⟨kk, hk, h⟩ := Option.bind_eq_some_iff.mp (show (asKey u).bind (fun k => valT kts k) = some w' from h)
  obtain ⟨ad, kvs, rfl, hq, rd⟩ := n1
  have ek := key_now n2 hk
  subst ek
  rcases rd.val kk with ⟨g1, _⟩ | ⟨t, v, g1, g2, g3⟩
  ·rw [g1] at h; cases h
  ·rw [g1] at h
   cases h
   exact ⟨ad, v, rfl, by rw [← g2]; exact DGet.k hq, post v H2 F2 α2 (x1.trans x2) S2 g3⟩
 | _ => cases u <;> cases h
theorem ce_getD (hr : Room k X.A) (ha : CE X a da) (hb : CE X b db) (hs : NoSl b := by intro _ _; rfl) : CE X (.Subscript a b pos) (dBin fGetD da db) := PE.imp (pe_dget (units_of hr) ha hb hs) getD_read
theorem ninD_read (σ : L2.St) (H : Hp) (Q : VK) (h : tD X (dBin fNinD da db) σ H Q) : tDNotIn (tD X da) (tD X db) σ H Q := by
 obtain ⟨F, α, e, μ, S, h⟩ := h
 refine ⟨F, α, e, μ, S, ?_⟩
 refine (R.wp_bind h).mono (fun x μ1 h v H1 F1 α1 x1 S1 o1 => ⟨F1, α1, e, μ1, S1, ?_⟩) fun _ _ h => h
 refine (R.wp_bind h).mono (fun y μ2 h v2 H2 F2 α2 x2 S2 o2 => ?_) fun _ _ h => h.mono x1
 obtain ⟨w, h9, post⟩ := R.wp_lift h
 obtain ⟨u, t, w', hu, ht, h, rfl⟩ := ap2_eq h9
 have n1 := now_of S2.st o2 ht
 have n2 := now_of S2.st (o1.mono x2.same x2.pre) hu
 cases t with
 | dct kts =>
  have h : (asKey u).map (fun k => T.bl (!(valT kts k).isSome)) = some w' := by cases u <;> exact h
  obtain ⟨kk, hk, rfl⟩ := Option.map_eq_some_iff.mp h
  obtain ⟨ad, kvs, rfl, hq, rd⟩ := n1
  have ek := key_now n2 hk
  subst ek
  refine ⟨ad, valV kvs kk, rfl, DGet.k hq, ?_⟩
  have e1 : (valT kts kk).isSome = (valV kvs kk).isSome := by
   rcases rd.val kk with ⟨g1, g2⟩ | ⟨t, v, g1, g2, g3⟩ <;> rw [g1, g2] <;> rfl
  rw [← e1]
  exact post _ H2 F2 α2 (x1.trans x2) S2 (Rep.bl' (K := X.K) (F := F2) _)
 | _ => cases u <;> cases h
theorem cs_putD (hr : Room k X.A) (i : Nat) {y : Str} {py tpos : Pos} {ik ev : Expr} {dk dv : D} (hk : CE X ik dk) (hv : CE X ev dv) (hN : X.N[i]? = some y := by rfl)
  (hvs : Vis X.env.scope y := by first | exact Or.inl rfl | exact Or.inr (Or.inl rfl) | exact Or.inr (Or.inr rfl)) (hd : (y == ("__debug__" : Str)) = false := by decide) (hcd : (y == ("__classdict__" : Str)) = false := by decide)
  (hs : swapsWith ev (some (.Subscript (.Name y py) ik tpos)) pos.line X.env = pure false := by rfl) :
  CS X (.Assign [.Subscript (.Name y py) ik tpos] ev pos) (sPutD i dk dv) :=
 PS.imp (ps_dput (units_of hr) (pe_var hN hvs hd hcd) hk hv hs) fun D σ H hX11_ => by
  obtain ⟨F, α, e, μ, S, h⟩ := hX11_
  refine ⟨F, α, e, μ, S, (PostS.toS h).mono (fun y μ1 h v H1 F1 α1 x1 S1 o1 => ?_) fun _ _ h => h⟩
  obtain ⟨x, hx, h⟩ := PostS.lift h
  obtain ⟨ov, hov, oo⟩ := S1.sl i x hx
  refine ⟨ov, hov, F1, α1, e, μ1, S1, (PostS.toS h).mono (fun z μ2 h v2 H2 F2 α2 x2 S2 o2 => ?_) fun _ _ h => h.mono x1⟩
  obtain ⟨k, hk, h⟩ := PostS.lift h
  have h := h.toS
  have nk := now_of S2.st o2 hk
  cases hz : frz y μ2 with
  | err c μ3 => exact absurd hz (frz_no y μ2 c μ3)
  | bad => rw [hz] at h; exact h.elim
  | ok t μ3 =>
   rw [hz] at h
   obtain ⟨μ4, ha4, h⟩ := PostS.lift h
   obtain ⟨F3, s3, n3, S3, r3⟩ := frz_ok S2.st (o1.mono x2.same x2.pre) hz
   cases x with
   | cel j =>
    obtain ⟨ad, had, rfl⟩ := oo
    unfold putAtD at ha4
    simp only at ha4
    have hc : ∃ kts kk, μ3[j]? = some (true, .dct kts) ∧ asKey k = some kk ∧ kts.length < szL ∧ μ4 = μ3.set j (true, .dct (putT kts kk t)) := by
     split at ha4
     ·rename_i us hjs
      obtain ⟨kk, e1, e2⟩ := Option.bind_eq_some_iff.mp ha4
      by_cases hl : us.length < szL
      ·rw [if_pos hl] at e2
       cases e2
       exact ⟨us, kk, hjs, e1, hl, rfl⟩
      ·rw [if_neg hl] at e2; cases e2
     ·cases ha4
    obtain ⟨kts, kk, hj3, hkk, hl, rfl⟩ := hc
    have ha3 : α2[j]? = some ad := pre_get x2.pre had
    obtain ⟨_, kvs, hw, rw'⟩ := (S3.cell j true _ ad hj3 ha3).1 rfl
    have el := rw'.length
    have ek := key_now nk hkk
    subst ek
    refine ⟨ad, _, rfl, DPut.k hw (by rw [szL_eq] at hl; omega), ?_⟩
    have x3 : Ex F α H F3 α2 H2 := x1.trans (x2.trans (Ex.of_ne s3 n3))
    exact h σ _ F3 α2 (x3.trans (Ex.put ha3)) ((S2.of s3 (List.prefix_refl _) S3).of (Same.refl _) (List.prefix_refl _) (put_ok S3 hj3 ha3 ⟨_, upd_same, rw'.put kk r3⟩))
   | val t => unfold putAtD at ha4; cases ha4
   | box xs => unfold putAtD at ha4; cases ha4
end
end Fw
namespace L2
open PySem PySem.Spec PyProof.Rows
theorem is_kV {P : Program} {w : World} {k : Key} {u : Value} (h : (mixKind P w).is k u = true) : RelV (kV k) u := by
 rcases keyIs_shape (show keyIs k u = true from h) with ⟨i, t, rfl, rfl⟩ | ⟨x, t, rfl, rfl⟩
 ·exact ⟨t, rfl⟩
 ·exact ⟨t, rfl⟩
theorem KV.get {kvs : List (Key × V)} {vs : List (Key × Value)} (r : KV kvs vs) {i : Nat} {p : Key × V} (h : kvs[i]? = some p) : ∃ u, vs[i]? = some (p.1, u) ∧ RelV p.2 u := by
 unfold KV at r
 induction r generalizing i with
 | nil => simp at h
 | @cons a b as bs h1 t ih =>
  cases i with
  | zero =>
   simp at h
   subst h
   refine ⟨b.2, ?_, h1.2⟩
   rw [h1.1]
   rfl
  | succ i => simpa using ih (by simpa using h)
noncomputable def Itd (d : Addr) (n : Nat) : It :=
 ⟨fun i H => ∃ kvs p, H d = some (.dK kvs) ∧ kvs.length = n ∧ kvs[i]? = some p,
  fun i H v H' => ∃ q p, v = .ref q ∧ H q = none ∧ H' = upd H q (.tup [kV p.1, p.2]) ∧ ∀ kvs, H d = some (.dK kvs) → kvs[i]? = some p,
  fun i H => ∃ kvs, H d = some (.dK kvs) ∧ kvs.length = n ∧ n ≤ i⟩
theorem turn_items {P : Program} {w : World} {K : PySem.W.Frag} {elts : List Expr} {x1 : Nat} {pos : Pos} {it d : Addr} {n : Nat} :
  Turn P w K (.Tuple elts x1 pos) (Itd d n) [it] it (fun i h => ∃ ok ov, IsItemIter h it d i n n ok ov) := by
 refine ⟨by simp, fun i h ⟨ok, ov, st⟩ b hb => ?_, fun i h h' ⟨ok, ov, st⟩ k => ⟨ok, ov, k it (by simp) _ st⟩, ?_, ?_, fun A i s Q E ⟨ok, ov, st⟩ hq => ?_⟩
 ·simp at hb; subst hb
  exact ⟨_, st, fun v e => by cases e⟩
 ·intro X hP hw hK hc i pins s σ H E I hf st hg
  obtain ⟨kvs, p, hd, hn, hp⟩ := hg
  obtain ⟨ok, ov, st⟩ := st
  subst hP hw hK
  obtain ⟨z, hS, vs, rel, dd⟩ := dk_at I.hok (.inl hd)
  have hl := rel.length
  obtain ⟨u, hu, ru⟩ := rel.get hp
  have en : n = vs.length := by lia
  rw [en] at st
  refine wpAny_pyNext_items_item st dd hu fun key h' hk hout ht hz hkeep => ⟨_, rfl, wpAny_letOwnedTupleGo_items hout fun h'' hit hs => ?_⟩
  have hne : it ≠ s.heap.objs.size := Nat.ne_of_lt (Heap.lt_size st)
  have ht2 : h''.get? s.heap.objs.size = some { cls := .type "tuple", data := .seq #[key, u] } := hs.extBut _ _ hne.symm ht
  refine ⟨.ref s.heap.objs.size, upd H s.heap.objs.size (.tup [kV p.1, p.2]), ?_, rfl, ⟨s.heap.objs.size, p, rfl, I.hok.fresh (Nat.le_refl _), rfl, fun ws hw => by rw [hd] at hw; cases hw; exact hp⟩, ⟨_, _, by rw [en]; exact hit⟩, fun c hcm => ?_⟩
  ·refine I.turnedL (ch := [it]) (fun c o hcn e => ?_) (fun c hcm => hf c hcm) ?_
   ·simp at hcn
    exact hs.extBut _ _ hcn (hkeep c o hcn e)
   ·exact ⟨by show 2 ≤ sizeLine; decide, [key, u], .cons (is_kV hk) (.cons ru .nil), ⟨_, ht2, rfl, 0, rfl⟩⟩
  ·simp at hcm
   subst hcm
   rw [upd_ne hne]
   exact (hf c (by simp)).1
 ·intro X hP hw hK hc i pins s σ H E I hf st hg
  obtain ⟨kvs, hd, hn, hle⟩ := hg
  obtain ⟨ok, ov, st⟩ := st
  subst hP hw hK
  obtain ⟨z, hS, vs, rel, dd⟩ := dk_at I.hok (.inl hd)
  have hl := rel.length
  have en : n = vs.length := by lia
  rw [en] at st
  refine wpAny_pyNext_items_end (I.ok.hd hc) st dd (List.getElem?_eq_none (by lia)) fun h' hx => ⟨rfl, I.turnedN (t' := s.toks) (ch := [it]) (fun c o hcn e => ?_) fun c hcm => hf c hcm⟩
  simp at hcn
  exact hx c o hcn e
 ·exact PySem.W.kcp_self st hq
noncomputable def iItemsV (tl : TE) : TI := fun σ H R => tl σ H fun x H1 => ∃ d kvs, x = .ref d ∧ H1 d = some (.dK kvs) ∧ R (Itd d kvs.length) H1
theorem pi_items {X : Cx} {elts : List Expr} {x1 : Nat} {tpos apos pos : Pos} {o : Expr} {tl : TE} (ho : PE X o tl) (hbase : attributeBase o "items" X.env (eval o X.env) = eval o X.env) (hline : (apos.endLine == pos.line) = true) :
  PI X (.Tuple elts x1 tpos) (.Call (.Attribute o "items" apos) [] [] pos) (iItemsV tl) := by
 intro pins s σ H R I h
 refine wpAny_Call_method (T := "dict") (id := "dict.items") hbase rfl hline PySem.F.plainAttrs_dict PySem.F.slot_dict_items PySem.F.type_dict_items (thn (ho pins s σ H _ I h) fun v s1 hX11_ => ?_)
 obtain ⟨x, H1, I1, r1, q1⟩ := hX11_
 obtain ⟨d, kvs, rfl, hd, q⟩ := q1
 cases r1
 obtain ⟨z, hS, vs, rel, dd⟩ := dk_at I1.hok (.inl hd)
 have hl := rel.length
 refine ⟨dd.dictOf.typeIs, dd.dictOf.mapOf.noDict, ?_⟩
 show wpAny _ _ (callWith pos (.builtin "dict.items") [.ref d] [] []) _ _ s1
 refine method_meetsIn PySem.F.slot_dict_items PySem.F.entry_dict_items rfl (PySem.evalArgs_none ⟨rfl, dd.dictOf.typeIs, PySem.F.args_dict_items_1 _, _, meets_dict_items (mixKind X.prog X.w) d hS, ⟨vs, dd.dictOf⟩, ?_⟩)
 refine wpAny_pyIter_items (d := d) (kvs := vs) (ep := vs.length) ⟨_, Heap.get?_push_size _ rfl, rfl, rfl⟩ (dd.push _) ?_
 have I2 : Inv X pins σ H1 { s1 with heap := (s1.heap.push { cls := .type "dict_items", data := .fields #[.ref d] }).push { cls := .type "dict_itemiterator", data := .fields #[.none, .bool false, .ref d, .int 0 0, .int vs.length 0, .int vs.length 0, .none, .none] } } :=
  I1.kept (t' := s1.toks) fun b o e => Heap.get?_push_of_some _ (Heap.get?_push_of_some _ e)
 refine ⟨_, [_], _, Itd d kvs.length, H1, rfl, I2, turn_items, ⟨.none, .none, by rw [hl]; exact Heap.get?_push_size _ rfl⟩, fun b hb => ?_, q⟩
 have e : s1.heap.objs.size ≤ b := by
  simp at hb
  subst hb
  exact Nat.le_succ _
 exact I1.fpOk e (I1.hok.fresh e)
theorem vals_keys {P : Program} {w : World} {kvs : List (Key × V)} {vs : List (Key × Value)} (r : KV kvs vs) {acc : List Value} (hl : acc.length = vs.length) (h : ∀ (i : Nat) (v : Value), acc[i]? = some v → ∃ (k : Key) (x : Value), vs[i]? = some (k, x) ∧ (mixKind P w).is k v = true) : Vals (kvs.map fun p => kV p.1) acc := by
 unfold KV at r
 induction r generalizing acc with
 | nil => cases acc with
  | nil => exact .nil
  | cons a l => simp at hl
 | @cons p q ps qs h1 t ih =>
  cases acc with
  | nil => simp at hl
  | cons a l =>
   obtain ⟨k, x, e, hk⟩ := h 0 a rfl
   simp at e
   refine .cons ?_ (ih (by simpa using hl) fun i v e => by simpa using h (i + 1) v (by simpa using e))
   have : p.1 = k := by rw [h1.1, e]
   show RelV (kV p.1) a
   rw [this]
   exact is_kV hk
theorem call_listD {X : Cx} (hc : X.calm = true) : CallR X (.type "list") (fun xs H Q => ∃ d kvs, xs = [.ref d] ∧ H d = some (.dK kvs) ∧ ∀ l, H l = none → Q (.ref l) (upd H l (.lst (kvs.map fun p => kV p.1)))) := by
 intro pins s σ H xs us Q I r h
 obtain ⟨d, kvs, rfl, hd, q⟩ := h
 obtain ⟨u, rfl, ru⟩ := vals1 r
 cases ru
 obtain ⟨z, hS, vs, rel, dd⟩ := dk_at I.hok (.inl hd)
 have hl := rel.length
 refine PySem.W.kdl_call (PySem.W.kdl_dict (knd := mixKind X.prog X.w) (kvs := vs) (ep := vs.length) hS) (I.ok.hd hc) dd (by lia) fun h' tk acc' c' hk hD hacc => ?_
 have hv : Vals (kvs.map fun p => kV p.1) acc'.toList := vals_keys rel (by rw [Array.length_toList]; exact hacc.1) fun j v e => hacc.2 j v (by rw [← Array.getElem?_toList]; exact e)
 exact ⟨.ref s.heap.objs.size, _, I.laid (a := s.heap.objs.size) (o := .lst (kvs.map fun p => kV p.1)) (h' := h') (t' := tk) hk (Nat.le_refl _) ⟨by rw [List.length_map]; exact z, acc'.toList, c', hv, hD⟩, rfl, q _ I.fresh⟩
end L2
namespace Fw
open PySem PySem.Spec PyProof.Rows L2
section
variable {K : PySem.W.Frag} {F : Hp}
theorem key_rep (k : Key) : Rep K F (keyT k) (kV k) := by
 cases k with
 | inl i => exact Rep.int' i
 | inr x => exact Rep.str' x
theorem RepD.get : ∀ {kts : List (Key × T)} {kvs : List (Key × V)} {i : Nat} {p : Key × T}, RepD K F kts kvs → kts[i]? = some p → ∃ v, kvs[i]? = some (p.1, v) ∧ Rep K F p.2 v
 | [], _, _, _, _, e => by simp at e
 | (k, t) :: kts, kvs, 0, p, h, e => by
  rw [RepD] at h
  obtain ⟨v, kvs', rfl, q, _⟩ := h
  simp at e; subst e
  exact ⟨v, rfl, q⟩
 | (k, t) :: kts, kvs, i + 1, p, h, e => by
  rw [RepD] at h
  obtain ⟨v, kvs', rfl, q, r⟩ := h
  obtain ⟨v', h1, h2⟩ := RepD.get (i := i) r (by simpa using e)
  exact ⟨v', by simpa using h1, h2⟩
theorem RepD.keys : ∀ {kts : List (Key × T)} {kvs : List (Key × V)}, RepD K F kts kvs → RepL K F (kts.map fun p => keyT p.1) (kvs.map fun p => kV p.1)
 | [], kvs, h => by rw [RepD] at h; subst h; exact .nil'
 | (k, t) :: kts, kvs, h => by
  rw [RepD] at h
  obtain ⟨v, kvs', rfl, q, r⟩ := h
  exact .cons' (key_rep k) r.keys
end
section
variable {X : Cx} {a b : Expr} {da db : D} {pos p : Pos}
theorem ci_items {elts : List Expr} {x1 : Nat} {tpos apos cpos : Pos} (ha : CE X a da) (hbase : attributeBase a "items" X.env (eval a X.env) = eval a X.env := by rfl) (hline : (apos.endLine == cpos.line) = true := by rfl) :
  CI X (.Tuple elts x1 tpos) (.Call (.Attribute a "items" apos) [] [] cpos) (iItems da) :=
 PI.imp (pi_items ha hbase hline) fun σ H R0 hX11_ => by
  obtain ⟨F, α, e, μ, S, h⟩ := hX11_
  refine ⟨F, α, e, μ, S, (R.wp_bind h).mono (fun x μ1 h v H1 F1 α1 x1 S1 o1 => ?_) fun _ _ h => h⟩
  obtain ⟨kts, ht, post⟩ := R.wp_lift (R.wp_bind h)
  obtain ⟨t, hr, ht⟩ := Option.bind_eq_some_iff.mp ht
  have n1 := now_of S1.st o1 hr
  cases t with
  | dct us =>
   cases ht
   obtain ⟨d, kvs, rfl, hq, hl⟩ := n1
   have hlen := hl.length
   refine ⟨d, kvs, rfl, hq, post _ H1 F1 α1 x1 S1 fun F2 α2 μ2 H2 s2 p2 S2 same => ?_⟩
   obtain ⟨d', kvs', e1, hq2, hl2⟩ := now_of S2 (o1.mono s2 p2) ((show rd μ2 x = rd μ1 x from same).trans hr)
   cases e1
   have hlen2 := hl2.length
   refine ⟨fun i t hi => ?_, ⟨kvs', hq2, by lia, ?_⟩⟩
   ·unfold itemsT at hi
    rw [List.getElem?_map] at hi
    obtain ⟨p, hp, rfl⟩ := Option.map_eq_some_iff.mp hi
    obtain ⟨v, hv, rv⟩ := hl2.get hp
    refine ⟨⟨kvs', (p.1, v), hq2, by lia, hv⟩, ?_⟩
    rintro z H3 ⟨q, p', rfl, hq', rfl, f⟩
    have w1 := f kvs' hq2
    rw [hv] at w1
    cases w1
    have g : Grow F2 H2 (upd F2 q (.tup [kV p.1, v])) (upd H2 q (.tup [kV p.1, v])) := Grow.new hq'
    refine ⟨_, g, ?_⟩
    rw [Rep]
    exact ⟨q, _, rfl, SqT.of upd_same, .cons' (key_rep p.1) (.cons' (Rep.mono (g.same S2.ext) _ _ rv) .nil')⟩
   ·show kvs.length ≤ (itemsT kts).length
    unfold itemsT
    rw [List.length_map]
    lia
  | _ => cases ht
theorem cf_listD (hm : X.mg "list" = none) (ha : CE X a da) (hc : X.calm = true := by rfl) (hg : Gl X "list" := by rfl) (hs1 : starEach [a] X.env = (false, eval a X.env) :: starEach [] X.env := by rfl) (hpl : (backTo pos (starEach [] X.env)).any (·.1) = false := by rfl) :
  CF X (.Call (.Name "list" p) [a] [] pos) (dUn fKeys da) := cf_ty1 (call_listD hc) (by
 intro F H v t w Q s hv hw q
 cases t with
 | dct ts =>
  cases hw
  obtain ⟨a, vs, rfl, hq, hl⟩ := hv
  exact ⟨a, vs, rfl, hq, fun l hp => q l _ hp ⟨_, upd_same, hl.keys⟩⟩
 | _ => cases hw) hm (by decide +kernel) ha hg (by decide) (by decide) hs1 hpl
end
end Fw
namespace Fw
open PySem PySem.Spec PyProof.Rows L2
section
variable {X : Cx} {a b : Expr} {da db : D} {pos p : Pos} {k : Nat}
theorem ct_of_cb {t : TE} {d : D} (h : PT X a (tB t)) (i : ∀ σ H Q, tD X d σ H Q → t σ H Q) : CT X a d := PT.imp h fun σ H Q hX11_ => by
 obtain ⟨F, α, e, μ, S, q⟩ := hX11_
 refine i σ H _ ⟨F, α, e, μ, S, q.mono (fun x μ1 hX21_ v H1 F1 α1 x1 S1 o1 => ?_) fun _ _ h => h⟩
 obtain ⟨k, e1, q⟩ := hX21_
 subst e1
 exact ⟨k, Rep.of_bl (K := X.K) (F := F1) o1, q H1 F1 α1 x1 S1⟩
theorem ct_ninD (hr : Room k X.A) (ha : CE X a da) (hb : CE X b db) (hm : behindInMarks .NotIn b = false := by with_unfolding_all rfl) : CT X (.Compare a [.NotIn] [b] pos) (dBin fNinD da db) := ct_of_cb (pt_cmp (pc_dnotin (units_of hr) ha hb) hm) ninD_read
end
end Fw
namespace Fw
open PySem
noncomputable def enumT (i : Int) : List T → List T
 | [] => []
 | t :: ts => .tup [.int i, t] :: enumT (i + 1) ts
noncomputable def iEnum (d : D) : DI := fun e μ => (d e μ).bind fun x μ1 => (R.lift ((rd μ1 x).bind seqItems) μ1).bind fun ts μ1 => .ok ⟨enumT 0 ts, fun μ' => rd μ' x = rd μ1 x⟩ μ1
@[simp] theorem iEnum_is (d : D) (e : Slots) (μ : Store) : iEnum d e μ = (d e μ).bind fun x μ1 => (R.lift ((rd μ1 x).bind seqItems) μ1).bind fun ts μ1 => .ok ⟨enumT 0 ts, fun μ' => rd μ' x = rd μ1 x⟩ μ1 := (rfl)
noncomputable def fBand : T → T → Option T
 | .int i, .int j => if 0 ≤ i ∧ j = 1 then some (.int (i % 2)) else none
 | _, _ => none
@[simp] theorem fBand_one (i : Int) (h : 0 ≤ i) : fBand (.int i) (.int 1) = some (.int (i % 2)) := if_pos ⟨h, rfl⟩
noncomputable def fInt : T → Option T
 | .int i => some (.int i)
 | .bl b => some (.int (if b then 1 else 0))
 | _ => none
@[simp] theorem fInt_int (i : Int) : fInt (.int i) = some (.int i) := (rfl)
@[simp] theorem fInt_bl (b : Bool) : fInt (.bl b) = some (.int (if b then 1 else 0)) := (rfl)
noncomputable def asV : SV → Option T
 | .val t => some t
 | _ => none
@[simp] theorem asV_val (t : T) : asV (.val t) = some t := (rfl)
noncomputable def sUnp (is : List Nat) (d : D) : DS := fun e μ => (d e μ).toS e fun x μ1 => (R.lift ((asV x).bind fun t => bTup is t e) μ1).toS e fun e' μ1 => .nx e' μ1
@[simp] theorem sUnp_is (is : List Nat) (d : D) (e : Slots) (μ : Store) : sUnp is d e μ = (d e μ).toS e fun x μ1 => (R.lift ((asV x).bind fun t => bTup is t e) μ1).toS e fun e' μ1 => .nx e' μ1 := (rfl)
@[simp] theorem bTup_tri (i j k : Nat) (t u v : T) (e : Slots) : bTup [i, j, k] (.tup [t, u, v]) e = some (((e.set i (some (.val t))).set j (some (.val u))).set k (some (.val v))) := (rfl)
noncomputable def clearAt (x : SV) (μ : Store) : Option Store := match x with
 | .cel k => match μ[k]? with
  | some (true, .lst _) => some (μ.set k (true, .lst []))
  | _ => none
 | _ => none
noncomputable def sClear (o : D) : DS := fun e μ => (o e μ).toS e fun x μ0 => (R.lift (clearAt x μ0) μ0).toS e fun μ1 _ => .nx e μ1
@[simp] theorem sClear_is (o : D) (e : Slots) (μ : Store) : sClear o e μ = (o e μ).toS e fun x μ0 => (R.lift (clearAt x μ0) μ0).toS e fun μ1 _ => .nx e μ1 := (rfl)
noncomputable def fRev : T → Option T
 | .lst ts => some (.lst ts.reverse)
 | _ => none
@[simp] theorem fRev_lst (ts : List T) : fRev (.lst ts) = some (.lst ts.reverse) := (rfl)
end Fw
namespace L2
open PySem PySem.Spec PyProof.Rows
open AutoSeq1 (wpAny_loadPart')
noncomputable abbrev eH (k : Bool) (h : Heap) (l : Addr) : Heap := (h.push (itRec k l)).push { cls := .type "enumerate", data := .fields #[.none, .bool false, .ref h.objs.size, rawInt 0, .none, .none] }
section
variable {prog : Program} {w : World} {A : Around} {E : Value → Shared → Prop} {s : Shared}
end
end L2
namespace Fw
open PySem PySem.Spec PyProof.Rows L2
end Fw
namespace L2
open PySem PySem.Spec PyProof.Rows
end L2
namespace Fw
open PySem PySem.Spec PyProof.Rows L2
section
variable {K : PySem.W.Frag}
end
section
variable {X : Cx} {a b c : Expr} {da db dc : D} {pos p p2 : Pos} {k : Nat}
end
end Fw
namespace L2
open PySem PySem.Spec PyProof.Rows
end L2
namespace Fw
open PySem PySem.Spec PyProof.Rows L2
section
variable {X : Cx} {a b c : Expr} {da db dc : D} {pos p p2 pu pc : Pos} {k : Nat}
end
end Fw
namespace Fw
open PySem PySem.Spec PyProof.Rows L2
section
variable {X : Cx} {a b c : Expr} {da db dc : D} {pos p p2 pu pc : Pos} {k : Nat}
end
end Fw
namespace Fw
open PySem
end Fw
namespace Fw
open PySem PySem.Spec PyProof.Rows L2
section
variable {X : Cx} {pos : Pos}
end
end Fw
namespace Fw
open PySem
end Fw
namespace Fw
open PySem PySem.Spec PyProof.Rows L2
section
variable {X : Cx} {pos p : Pos} {k : Nat} {a : Expr} {da : D}
end
end Fw
namespace Fw
open PySem
theorem us_cons {us : List Value} {n : Nat} (h : us.length = n + 1) : ∃ a as, us = a :: as := by
 cases us with
 | nil => cases h
 | cons a as => exact ⟨a, as, rfl⟩
end Fw
namespace Fw
open PySem PySem.Spec PyProof.Rows L2
section
variable {X : Cx} {a b : Expr} {da db : D} {pos p : Pos} {k : Nat}
end
end Fw
namespace Fw
open PySem PySem.Spec PyProof.Rows L2
section
variable {X : Cx} {a b : Expr} {da db : D} {pos : Pos}
end
end Fw
namespace Fw
open PySem
end Fw
namespace Fw
open PySem PySem.Spec PyProof.Rows L2
section
variable {X : Cx} {body : List Stmt} {es : List Expr} {ds : List D} {d : DS} {pos np lp : Pos}
end
end Fw
namespace L2
open PySem PySem.Spec PyProof.Rows
section
variable {prog : Program} {w : World} {A : Around} {E : Value → Shared → Prop} {s : Shared}
end
section
variable {prog : Program} {w : World} {A : Around} {E : Value → Shared → Prop} {s : Shared}
end
end L2
namespace L2
open PySem PySem.Spec PyProof.Rows
end L2
namespace Fw
open PySem PySem.Spec PyProof.Rows L2
end Fw
namespace Fw
open PySem
end Fw
namespace L2
open PySem PySem.Spec PyProof.Rows
open AutoSeq1 (wpAny_loadPart')
section
variable {prog : Program} {w : World} {A : Around} {E : Value → Shared → Prop} {s : Shared}
end
end L2
namespace HT
open PySem PySem.Spec PyProof.Rows L2
section
variable {prog : Program} {w : World} {A : Around} {E : Value → Shared → Prop} {s : Shared}
end
end HT
namespace L2
open PySem PySem.Spec PyProof.Rows
end L2
namespace Fw
open PySem PySem.Spec PyProof.Rows L2
end Fw
namespace Fw
open PySem
end Fw
namespace L2
open PySem PySem.Spec PyProof.Rows
end L2
namespace Fw
open PySem PySem.Spec PyProof.Rows L2
end Fw
namespace L2
open PySem PySem.Spec PyProof.Rows
section
variable {prog : Program} {w : World} {A : Around} {E : Value → Shared → Prop} {s : Shared}
noncomputable abbrev IsZipO (h : Heap) (z TI TO a : Addr) (f : Bool) : Prop := h.get? z = some { cls := .type "zip", dict := none, data := .fields #[rawInt a, .bool f, .bool false, .ref TI, .ref TO], slots := #[] }
structure ZOA (z TI i1 i2 l1 l2 : Addr) : Prop where
 TIz : TI ≠ z
 i1z : i1 ≠ z
 i2z : i2 ≠ z
 i12 : i1 ≠ i2
 l1z : l1 ≠ z
 l1i1 : l1 ≠ i1
 l2z : l2 ≠ z
 l2i1 : l2 ≠ i1
end
section
variable {X : Cx} {pins : List (Addr × Obj)} {σ : L2.St} {H : Hp} {s : Shared}
structure ZO (k1 k2 : Bool) (z TI TO i1 i2 l1 l2 : Addr) (i : Nat) (H : Hp) (h : Heap) : Prop where
 zz : IsZip h z TI TO .none ∨ ∃ a f ws, H a = some (.tup ws) ∧ IsZipO h z TI TO a f
 ti : IsPair h TI (.ref i1) (.ref i2)
 to : ∃ a b, IsPair h TO a b
 one : KIt k1 h i1 l1 i
 two : KIt k2 h i2 l2 i
theorem ZO.keep {k1 k2 : Bool} {z TI TO i1 i2 l1 l2 : Addr} {i : Nat} {h h' : Heap} (st : ZO k1 k2 z TI TO i1 i2 l1 l2 i H h) (k : ∀ b ∈ [z, TI, TO, i1, i2], ∀ o, h.get? b = some o → h'.get? b = some o) : ZO k1 k2 z TI TO i1 i2 l1 l2 i H h' := by
 obtain ⟨a, b, hto⟩ := st.to
 refine ⟨?_, k TI (.tail _ (.head _)) _ st.ti, ⟨a, b, k TO (.tail _ (.tail _ (.head _))) _ hto⟩, st.one.at fun o e => k i1 (.tail _ (.tail _ (.tail _ (.head _)))) o e, st.two.at fun o e => k i2 (.tail _ (.tail _ (.tail _ (.tail _ (.head _))))) o e⟩
 rcases st.zz with hz | ⟨c, f, ws, hc, hz⟩
 ·exact .inl (k z (.head _) _ hz)
 ·exact .inr ⟨c, f, ws, hc, k z (.head _) _ hz⟩
theorem ZO.apart {k1 k2 : Bool} {z TI TO i1 i2 l1 l2 : Addr} {i : Nat} {xs ys : List V} (d1 : TI ≠ TO) (d2 : i1 ≠ i2) (I : Inv X pins σ H s) (hf : ∀ b ∈ [z, TI, TO, i1, i2], FpOk X pins H b) (st : ZO k1 k2 z TI TO i1 i2 l1 l2 i H s.heap) (h1 : KSqV X.K k1 H l1 xs) (h2 : KSqV X.K k2 H l2 ys) :
  ZipApart z TI TO i1 i2 l1 l2 ∧ ZOA z TI i1 i2 l1 l2 := by
 obtain ⟨a, b, hto⟩ := st.to
 obtain ⟨o1, e1, q1⟩ := st.one.ob
 obtain ⟨o2, e2, q2⟩ := st.two.ob
 obtain ⟨oz, vz, ez, qz, sz⟩ : ∃ (oz : Obj) (vz : Array Value), s.heap.get? z = some oz ∧ oz.data = .fields vz ∧ vz.size = 5 := by
  rcases st.zz with hz | ⟨c, f, ws, hc, hz⟩
  ·exact ⟨_, _, hz, rfl, rfl⟩
  ·exact ⟨_, _, hz, rfl, rfl⟩
 have neP : ∀ {c d : Addr} {o : Obj} {u v : Value} {vs : Array Value}, IsPair s.heap c u v → s.heap.get? d = some o → o.data = .fields vs → c ≠ d := fun {c d o u v vs} hp ho hd e => by
  subst e
  have hp : s.heap.get? c = some { cls := .type "tuple", data := .seq #[u, v] } := hp
  rw [hp] at ho; cases ho; cases hd
 have neZ : ∀ {d : Addr} {l : Addr} {o : Obj} {n : Nat}, s.heap.get? d = some o → o.data = .fields #[.ref l, .int n 0] → d ≠ z := fun {d l o n} ho hd e => by
  subst e
  rw [ez] at ho; cases ho
  rw [qz] at hd
  have : vz = #[.ref l, .int n 0] := by injection hd
  rw [this] at sz
  exact absurd sz (by simp)
 have w : ∀ c ∈ [z, TI, TO, i1, i2], l1 ≠ c ∧ l2 ≠ c := fun c hc => ⟨ksqv_own I h1 (hf c hc), ksqv_own I h2 (hf c hc)⟩
 have D : ZipApart z TI TO i1 i2 l1 l2 := { TIz := neP st.ti ez qz, TOz := neP hto ez qz, i1z := neZ e1 q1, i2z := neZ e2 q2, TITO := d1, TIi1 := neP st.ti e1 q1, TIi2 := neP st.ti e2 q2, TOi1 := neP hto e1 q1, TOi2 := neP hto e2 q2, i12 := d2, l1z := (w z (.head _)).1, l1TO := (w TO (.tail _ (.tail _ (.head _)))).1, l1i1 := (w i1 (.tail _ (.tail _ (.tail _ (.head _))))).1, l1i2 := (w i2 (.tail _ (.tail _ (.tail _ (.tail _ (.head _)))))).1, l2z := (w z (.head _)).2, l2TO := (w TO (.tail _ (.tail _ (.head _)))).2, l2i1 := (w i1 (.tail _ (.tail _ (.tail _ (.head _))))).2, l2i2 := (w i2 (.tail _ (.tail _ (.tail _ (.tail _ (.head _)))))).2 }
 exact ⟨D, ⟨D.TIz, D.i1z, D.i2z, D.i12, D.l1z, D.l1i1, D.l2z, D.l2i1⟩⟩
end
end L2
namespace L2
open PySem PySem.Spec PyProof.Rows
end L2
namespace Fw
open PySem PySem.Spec PyProof.Rows L2
end Fw
namespace L2
open PySem PySem.Spec PyProof.Rows
end L2
namespace Fw
open PySem PySem.Spec PyProof.Rows L2
end Fw
namespace Fw
open PySem
noncomputable def Rws (ls : List (List Int)) : T := .lst (ls.map fun l => .tup (l.map .int))
noncomputable def E12 (p w s : Int) (ls : List (List Int)) : Slots := [none, none, some (.val (.int p)), some (.val (.int w)), none, some (.val (Rws ls)), none, some (.cel 0), none, some (.val (.int s))]
end Fw
namespace Fw
open PySem L2
noncomputable def noL (p : Addr × Obj) : Bool := match p.2.cls with
 | .type n => n != "list"
 | _ => true
noncomputable def NoL (K : PySem.W.Frag) : Prop := K.all noL = true
theorem lookup_in : ∀ {K : List (Addr × Obj)} {a : Addr} {o : Obj}, K.lookup a = some o → ∃ b, (b, o) ∈ K
 | [], _, _, h => by cases h
 | (k, v) :: K, a, o, h => by
  rw [List.lookup_cons] at h
  cases q : a == k with
  | true => simp only [q] at h; cases h; exact ⟨k, List.mem_cons_self⟩
  | false => simp only [q] at h; obtain ⟨b, m⟩ := lookup_in h; exact ⟨b, List.mem_cons_of_mem _ m⟩
theorem NoL.no {K : PySem.W.Frag} (h : NoL K) {a : Addr} {o : Obj} (e : K.lookup a = some o) (c : o.cls = .type "list") : False := by
 obtain ⟨b, m⟩ := lookup_in e
 have z := List.all_eq_true.mp h (b, o) m
 unfold noL at z
 simp only [c] at z
 simp at z
noncomputable def Sc (F : Hp) (α : List Addr) (H : Hp) : Prop := ∃ b o u, H b = some (.frz o u) ∧ F b = none ∧ b ∉ α
section
variable {K : PySem.W.Frag} {F F' F1 H H' : Hp} {α α' : List Addr} {μ : Store}
theorem Sc.ex (x : Ex F α H F' α' H') (h : Sc F α H) : Sc F' α' H' := by
 obtain ⟨b, o, u, h1, h2, h3⟩ := h
 obtain ⟨g1, g2, g3⟩ := x.fr b _ h1 h2 h3
 exact ⟨b, o, u, g1, g2, g3⟩
theorem Sc.nofrz (h : Sc F α H) (S : StOk K F α μ H) (b : Addr) (o : Obj) (u : HO) : F b ≠ some (.frz o u) := fun e => by
 obtain ⟨c, o', u', h1, h2, _⟩ := h
 have := S.one b c _ _ _ _ (S.ext b _ e) h1
 subst this
 rw [h2] at e; cases e
theorem lst_def {a : Addr} {vs : List V} (hK : NoL K) (nf : ∀ b o u, F b ≠ some (.frz o u)) (h : SqL K F a vs) : F a = some (.lst vs) := by
 rcases h with (h | ⟨o, h⟩) | ⟨o, its, n, hk, hc, _⟩
 ·exact h
 ·exact absurd h (nf _ _ _)
 ·exact (hK.no hk hc).elim
noncomputable def Ints (N : Nat) (t : T) : Prop := ∃ ns : List Int, t = .lst (ns.map .int) ∧ ns.length ≤ N
theorem repL_ints : ∀ {ns : List Int} {vs : List V}, RepL K F (ns.map T.int) vs → vs = ns.map V.int
 | [], vs, h => by rw [List.map_nil, RepL] at h; exact h
 | n :: ns, vs, h => by
  rw [List.map_cons, RepL] at h
  obtain ⟨v, vs', rfl, h1, h2⟩ := h
  rw [Rep.of_int h1, repL_ints h2, List.map_cons]
theorem SqL.off {a b : Addr} {vs : List V} (hF : ∀ c, c ≠ b → F' c = F c) (h : SqL K F a vs) (n : a ≠ b) : SqL K F' a vs := by
 rcases h with (h | ⟨ob, h⟩) | h
 ·exact .inl (.inl (by rw [hF a n]; exact h))
 ·exact .inl (.inr ⟨ob, by rw [hF a n]; exact h⟩)
 ·exact .inr h
theorem SqT.off {a b : Addr} {vs ws : List V} (hF : ∀ c, c ≠ b → F' c = F c) (hb : Rd F b (.lst ws)) (h : SqT K F a vs) : SqT K F' a vs := by
 rcases h with h | h
 ·have n : a ≠ b := fun q => by
   subst q
   rcases h with h | ⟨ob, h⟩ <;> rcases hb with hb | ⟨o2, hb⟩ <;> (rw [h] at hb; cases hb)
  rcases h with h | ⟨ob, h⟩
  ·exact .inl (.inl (by rw [hF a n]; exact h))
  ·exact .inl (.inr ⟨ob, by rw [hF a n]; exact h⟩)
 ·exact .inr h
theorem poke1 (hK : NoL K) {b : Addr} {ns : List Int} (hb : F b = some (.lst (ns.map V.int))) {t : T} {x : V} {N : Nat} (ht : Ints N t) (r : Rep K F t x) : ∃ t', Ints (N + 1) t' ∧ Rep K (upd F b (.lst (ns.map V.int ++ [.int 1]))) t' x := by
 obtain ⟨ms, rfl, hl⟩ := ht
 rw [Rep] at r
 obtain ⟨a, vs, rfl, q, rl⟩ := r
 have e := repL_ints rl
 subst e
 by_cases ea : a = b
 ·subst ea
  have e2 : ms.map V.int = ns.map V.int := by
   rcases q with (q | ⟨o, q⟩) | ⟨o, its, n, hk, hc, _⟩
   ·rw [hb] at q; injection q with q; injection q with q; exact q.symm
   ·rw [hb] at q; cases q
   ·exact (hK.no hk hc).elim
  refine ⟨.lst ((ms ++ [1]).map .int), ⟨_, rfl, by simp; omega⟩, ?_⟩
  rw [Rep]
  refine ⟨a, ns.map V.int ++ [.int 1], rfl, SqL.of upd_same, ?_⟩
  rw [← e2]
  have := RepL.of_ints (K := K) (F := upd F a (.lst (ms.map V.int ++ [.int 1]))) (ms ++ [1])
  rw [List.map_append (f := V.int)] at this
  exact this
 ·refine ⟨.lst (ms.map .int), ⟨ms, rfl, by omega⟩, ?_⟩
  rw [Rep]
  exact ⟨a, _, rfl, SqL.off (fun c h => upd_ne h) q ea, RepL.of_ints _⟩
theorem pokeL (hK : NoL K) {b : Addr} {ns : List Int} (hb : F b = some (.lst (ns.map V.int))) {N : Nat} : ∀ {ts : List T} {xs : List V}, (∀ t, t ∈ ts → Ints N t) → RepL K F ts xs →
  ∃ ts', ts'.length = ts.length ∧ (∀ t, t ∈ ts' → Ints (N + 1) t) ∧ RepL K (upd F b (.lst (ns.map V.int ++ [.int 1]))) ts' xs
 | [], xs, _, r => by
  rw [RepL] at r
  subst r
  exact ⟨[], rfl, fun t h => by simp at h, by rw [RepL]⟩
 | t :: ts, xs, h, r => by
  rw [RepL] at r
  obtain ⟨v, vs', rfl, r1, r2⟩ := r
  obtain ⟨t', g1, g2⟩ := poke1 hK hb (h t List.mem_cons_self) r1
  obtain ⟨ts', g3, g4, g5⟩ := pokeL hK hb (fun u hu => h u (List.mem_cons_of_mem _ hu)) r2
  refine ⟨t' :: ts', by rw [List.length_cons, List.length_cons, g3], fun u hu => ?_, ?_⟩
  ·rcases List.mem_cons.mp hu with z | z
   ·rw [z]; exact g1
   ·exact g4 u z
  ·rw [RepL]
   exact ⟨v, vs', rfl, g2, g5⟩
theorem tups_off {b : Addr} {ws : List V} (hF : ∀ c, c ≠ b → F' c = F c) (hb : Rd F b (.lst ws)) : ∀ {ls : List (List Int)} {vs : List V}, RepL K F (ls.map fun l => .tup (l.map .int)) vs → RepL K F' (ls.map fun l => .tup (l.map .int)) vs
 | [], vs, r => by rw [List.map_nil, RepL] at r ⊢; exact r
 | l :: ls, vs, r => by
  rw [List.map_cons, RepL] at r ⊢
  obtain ⟨v, vs', e, r1, r2⟩ := r
  refine ⟨v, vs', e, ?_, tups_off hF hb r2⟩
  rw [Rep] at r1 ⊢
  obtain ⟨a, us, e1, q, rl⟩ := r1
  have e2 := repL_ints rl
  subst e2
  exact ⟨a, _, e1, SqT.off hF hb q, RepL.of_ints _⟩
theorem rows_off {b : Addr} {ns : List Int} (hF : ∀ c, c ≠ b → F' c = F c) (hb : Rd F b (.lst (ns.map V.int))) {l : List Int} {ls : List (List Int)} {v : V} (h : Rep K F (Rws (l :: ls)) v) : Rep K F' (Rws (l :: ls)) v := by
 unfold Rws at h ⊢
 rw [Rep] at h ⊢
 obtain ⟨a, vs, e, q, r⟩ := h
 have no : ∀ ms : List Int, vs = ms.map V.int → False := fun ms z => by
  rw [List.map_cons, RepL] at r
  obtain ⟨v0, vs0, z1, r1, _⟩ := r
  rw [Rep] at r1
  obtain ⟨c, us, z2, _⟩ := r1
  cases ms with
  | nil => rw [z1] at z; cases z
  | cons m ms => rw [z1, z2, List.map_cons] at z; cases z
 refine ⟨a, vs, e, ?_, tups_off hF hb r⟩
 rcases q with q | q
 ·refine SqL.off hF (.inl q) fun z => ?_
  subst z
  rcases q with q | ⟨ob, q⟩ <;> rcases hb with hb | ⟨o2, hb⟩
  ·rw [q] at hb; injection hb with hb; injection hb with hb; exact no _ hb
  ·rw [q] at hb; cases hb
  ·rw [q] at hb; cases hb
  ·rw [q] at hb; injection hb with hb; injection hb with _ hb; injection hb with hb; exact no _ hb
 ·exact .inr q
theorem RepL.nth : ∀ {ts : List T} {vs : List V} {i : Nat} {v : V}, RepL K F ts vs → vs[i]? = some v → ∃ t, ts[i]? = some t ∧ Rep K F t v
 | [], vs, i, v, r, h => by rw [RepL] at r; subst r; simp at h
 | t :: ts, vs, i, v, r, h => by
  rw [RepL] at r
  obtain ⟨w, ws, rfl, r1, r2⟩ := r
  cases i with
  | zero => simp at h; subst h; exact ⟨t, rfl, r1⟩
  | succ i =>
   obtain ⟨u, g1, g2⟩ := RepL.nth r2 (by simpa using h)
   exact ⟨u, by simpa using g1, g2⟩
end
noncomputable def At (K : PySem.W.Frag) (p w s : Int) (ls : List (List Int)) (n N : Nat) (a : Addr) (σ : St) (H : Hp) : Prop :=
 ∃ F α ts, α[0]? = some a ∧ Sim K F α (E12 p w s ls) [(true, .lst ts)] σ H ∧ (ls ≠ [] → Sc F α H) ∧ ts.length = n ∧ ∀ t, t ∈ ts → Ints N t
theorem At.poke {K : PySem.W.Frag} {p w s : Int} {l : List Int} {ls : List (List Int)} {n N : Nat} {a b : Addr} {σ : St} {H F : Hp} {α : List Addr} {ts : List T} {e : Slots} {ms : List Int} (hK : NoL K) (hα : α[0]? = some a)
  (S : Sim K F α e [(true, .lst ts)] σ H) (he : ∀ i x, slot (E12 p w s (l :: ls)) i = some x → slot e i = some x) (hel : e.length = 10) (sc : Sc F α H) (hn : ts.length = n) (hI : ∀ t, t ∈ ts → Ints N t) (hb : F b = some (.lst (ms.map V.int))) :
  At K p w s (l :: ls) n (N + 1) a σ (upd H b (.lst (ms.map V.int ++ [.int 1]))) := by
 obtain ⟨ha, xs, hx, rx⟩ := (S.st.cell 0 true _ a rfl hα).1 rfl
 obtain ⟨ts', g1, g2, g3⟩ := pokeL hK hb hI rx
 have hab : a ≠ b := fun q => by subst q; rw [ha] at hb; cases hb
 have hHb := S.st.ext _ _ hb
 refine ⟨upd F b (.lst (ms.map V.int ++ [.int 1])), α, ts', hα, ⟨⟨fun c z hz => ?_, S.st.len, S.st.nd, fun k c hk => ?_, fun k bb t c h1 h2 => ?_, S.st.one.upd fun _ _ h => by cases h⟩, fun i x h => ?_, ?_⟩, fun _ => ?_, by rw [g1, hn], g2⟩
 ·by_cases ec : c = b
  ·subst ec; rw [upd_same] at hz ⊢; exact hz
  ·rw [upd_ne ec] at hz ⊢; exact S.st.ext _ _ hz
 ·by_cases ec : c = b
  ·subst ec; exact ⟨_, upd_same⟩
  ·rw [upd_ne ec]; exact S.st.there k c hk
 ·cases k with
  | succ k => cases h1
  | zero =>
   rw [hα] at h2
   cases h2
   cases h1
   exact ⟨fun _ => ⟨by rw [upd_ne hab]; exact ha, xs, by rw [upd_ne hab]; exact hx, g3⟩, fun z => by cases z⟩
 ·obtain ⟨v, v1, v2⟩ := S.sl i x (he i x h)
  refine ⟨v, v1, ?_⟩
  rcases i with _ | _ | _ | _ | _ | _ | _ | _ | _ | _ | i
  ·cases h
  ·cases h
  ·cases h; have e3 : v = .int p := Rep.of_int (K := K) (F := F) v2; subst e3; exact Rep.int' (K := K) (F := upd F b (.lst (ms.map V.int ++ [.int 1]))) p
  ·cases h; have e3 : v = .int w := Rep.of_int (K := K) (F := F) v2; subst e3; exact Rep.int' (K := K) (F := upd F b (.lst (ms.map V.int ++ [.int 1]))) w
  ·cases h
  ·cases h; exact rows_off (fun c h => upd_ne h) (.inl hb) v2
  ·cases h
  ·cases h; exact v2
  ·cases h
  ·cases h; have e3 : v = .int s := Rep.of_int (K := K) (F := F) v2; subst e3; exact Rep.int' (K := K) (F := upd F b (.lst (ms.map V.int ++ [.int 1]))) s
  ·cases h
 ·rw [← S.len, hel]; rfl
 ·obtain ⟨c, o, u, h1, h2, h3⟩ := sc
  have nc : c ≠ b := fun q => by subst q; rw [hb] at h2; cases h2
  exact ⟨c, o, u, by rw [upd_ne nc]; exact h1, by rw [upd_ne nc]; exact h2, h3⟩
theorem ps_poke {X : Cx} {tg iter o e1 : Expr} {apos cpos pos pos' : Pos} (hK : NoL X.K) (hp : PassesOwn (model X.prog X.w) X.A X.env X.xe) (hc : X.calm = true) (hi : CE X iter (dVar 7)) (hg : CB X tg (bName 8)) (ho : CE X o (dVar 8)) (he : CE X e1 (dC (.int 1)))
  (hbase : attributeBase o "append" X.env (eval o X.env) = eval o X.env := by rfl)
  (hfew : ((backTo cpos (starEach [e1] X.env)).all (fun x => !x.1) && (backToKw cpos (keywordEach [] X.env)).all (fun x => x.1.isSome) && decide (([e1] : List Expr).length + ([] : List Keyword).length + (if ([] : List Keyword).isEmpty then 0 else 1) < 30)) = true := by rfl)
  (hline : (apos.endLine == cpos.line) = true := by rfl) (hs1 : starEach [e1] X.env = (false, eval e1 X.env) :: starEach [] X.env := by rfl) (hpl : (backTo cpos (starEach [] X.env)).any (·.1) = false := by rfl)
  (hs : swapsWith (.Call (.Attribute o "append" apos) [e1] [] cpos) none pos'.line X.env = pure false := by rfl) (hf : ∀ x, foldedSetIterable iter X.env x = pure x := by intro _; rfl) :
  PS X (.For tg iter [.Expr (.Call (.Attribute o "append" apos) [e1] [] cpos) pos'] [] pos) (fun D σ H => ∃ p w s ls n a, At X.K p w s ls n 100 a σ H ∧ (ls = [] → n = 0) ∧ n ≤ 100 ∧ ∀ σ' H' N, At X.K p w s ls n N a σ' H' → D.nx σ' H') :=
 PS.imp (ps_for hp hc (pi_list hi) hg (pss_one (ps_expr (pe_bm PySem.F.plainAttrs_list PySem.F.slot_list_append PySem.F.type_list_append mt_append ho (ca_cons he ca_nil hs1) hbase hfew hline hs1 hpl) hs)) hf)
  fun D σ H hX11_ => by
 obtain ⟨p, w, s, ls, n, a, ⟨F, α, ts, hα, S, sc, hn, hI⟩, hls, hn2, fin⟩ := hX11_
 refine ⟨F, α, _, _, S, ?_⟩
 show Post X.K F α H _ σ _ (.cel 0) _
 intro v H1 F1 α1 x1 S1 o1
 obtain ⟨a1, ha, rfl⟩ := o1
 have ea : a1 = a := by
  have := pre_get x1.pre hα
  rw [ha] at this; cases this; rfl
 subst ea
 obtain ⟨_, xs, hx, rx⟩ := (S1.st.cell 0 true _ a1 rfl ha).1 rfl
 refine ⟨a1, rfl, ⟨xs, SqL.of hx⟩, fun i m σ H => m = n - i ∧ i ≤ n ∧ At X.K p w s ls n (100 + i) a1 σ H, ⟨n, by rw [Nat.sub_zero], Nat.zero_le _, F1, α1, ts, ha, S1, fun z => (sc z).ex x1, hn, hI⟩, ?_⟩
 rintro i m σ2 H2 ⟨rfl, hi, A⟩
 have A2 := A
 obtain ⟨F2, α2, ts2, ha2, S2, sc2, hn2', hI2⟩ := A
 obtain ⟨_, xs2, hx2, rx2⟩ := (S2.st.cell 0 true _ a1 rfl ha2).1 rfl
 have hlen := rx2.length
 by_cases hlt : i < n
 ·have hlt2 : i < xs2.length := by omega
  refine .inr ⟨⟨xs2, xs2[i], SqL.of hx2, by simp [hlt2]⟩, fun σ' H' => At X.K p w s ls n (100 + (i + 1)) a1 σ' H', fun σ' H' q => ⟨n - (i + 1), by omega, rfl, hlt, q⟩, fun x H3 y => ?_⟩
  obtain ⟨rfl, y⟩ := y
  obtain ⟨t, ht, rt⟩ := rx2.nth (y xs2 (SqL.of hx2))
  refine ⟨F2, α2, _, _, t, _, S2, rt, rfl, fun σ4 S4 => ?_⟩
  obtain ⟨ms, rfl, hml⟩ := hI2 t (List.mem_of_getElem? ht)
  cases ls with
  | nil => have := hls rfl; omega
  | cons l ls =>
   have sc2 := sc2 (by simp)
   refine ⟨F2, α2, _, _, S4, ?_⟩
   show Post X.K F2 α2 _ _ σ4 _ (.val (.lst (ms.map .int))) _
   intro v H5 F5 α5 x5 S5 o5
   have o5' : Rep X.K F5 (.lst (ms.map .int)) v := o5
   rw [Rep] at o5'
   obtain ⟨b, vs, rfl, q5, rl5⟩ := o5'
   have e5 := repL_ints rl5
   subst e5
   have hb := lst_def hK ((sc2.ex x5).nofrz S5.st) q5
   refine ⟨.inl ⟨rfl, _, SqL.of (S5.st.ext _ _ hb)⟩, args1 ⟨F5, α5, _, _, S5, ?_⟩⟩
   show Post X.K F5 α5 _ _ σ4 _ (.val (.int 1)) _
   intro v2 H6 F6 α6 x6 S6 o6
   have hv2 : v2 = .int 1 := Rep.of_int (K := X.K) (F := F6) o6
   subst hv2
   have hb6 := x6.same _ _ hb
   refine ⟨b, ms.map V.int, _, rfl, rfl, S6.st.ext _ _ hb6, by rw [List.length_map]; have : sizeLine = 16777216 := rfl; omega, ?_⟩
   have ha6 : α6[0]? = some a1 := pre_get (x5.pre.trans x6.pre) ha2
   exact At.poke hK ha6 S6 (fun j x h => by
    rcases j with _ | _ | _ | _ | _ | _ | _ | _ | _ | _ | j <;> first | exact h | cases h) rfl ((sc2.ex x5).ex x6) hn2' hI2 hb6
 ·have e : i = n := by omega
  subst e
  exact .inl ⟨⟨xs2, SqL.of hx2, by omega⟩, fin σ2 H2 _ A2⟩
theorem tseq {X : Cx} {d1 d2 : DS} {t : TS} {D : Ends} {σ : St} {H : Hp} (h : tSeq (tDS X (sSeq d1 d2)) t D σ H) : tSeq (tDS X d1) (tSeq (tDS X d2) t) D σ H := by
 obtain ⟨F, α, e, μ, S, h⟩ := h
 refine ⟨F, α, e, μ, S, ?_⟩
 unfold sSeq at h
 cases q : d1 e μ with
 | nx e1 μ1 =>
  rw [q] at h
  exact fun σ' H' F' α' x S' => ⟨F', α', e1, μ1, S', h.mono x⟩
 | rt x μ1 => rw [q] at h; exact h
 | bk e1 μ1 => rw [q] at h; exact h
 | ct e1 μ1 => rw [q] at h; exact h
 | err c e1 μ1 => rw [q] at h; exact h
 | bad => rw [q] at h; exact h
theorem tseq1 {X : Cx} {d1 d2 : DS} {D : Ends} {σ : St} {H : Hp} (h : tDS X (sSeq d1 d2) D σ H) : tSeq (tDS X d1) (tDS X d2) D σ H := by
 obtain ⟨F, α, e, μ, S, h⟩ := h
 refine ⟨F, α, e, μ, S, ?_⟩
 unfold sSeq at h
 cases q : d1 e μ with
 | nx e1 μ1 =>
  rw [q] at h
  exact fun σ' H' F' α' x S' => ⟨F', α', e1, μ1, S', h.mono x⟩
 | rt x μ1 => rw [q] at h; exact h
 | bk e1 μ1 => rw [q] at h; exact h
 | ct e1 μ1 => rw [q] at h; exact h
 | err c e1 μ1 => rw [q] at h; exact h
 | bad => rw [q] at h; exact h
theorem tstep {X : Cx} {d : DS} {t : TS} {D : Ends} {σ : St} {H F : Hp} {α : List Addr} {e e' : Slots} {μ μ' : Store} (S : Sim X.K F α e μ σ H) (h : d e μ = .nx e' μ') (k : ∀ σ' H' F' α', Ex F α H F' α' H' → Sim X.K F' α' e' μ' σ' H' → t D σ' H') : tSeq (tDS X d) t D σ H :=
 ⟨F, α, e, μ, S, by rw [h]; exact k⟩
end Fw
namespace Fw
open PySem
end Fw
namespace Fw
open PySem
end Fw
namespace Fw
open PySem
end Fw
namespace Fw
open PySem
end Fw
namespace Fw
open PySem
end Fw
namespace Fw
open PySem
end Fw
namespace Fw
open PySem
end Fw
namespace Fw
open PySem
end Fw
namespace Fw
open PySem
end Fw
namespace Fw.k05
open PySem Fw
noncomputable def b_over : DS :=
 (sSeq (sSet 3 (dBin fMod (dVar 2) (dVar 0)))
 (sSeq (sIf (dBin fEq (dVar 3) (dC (.int 0))) sBad sNil)
 (sSeq (sSet 4 (dBin fMod (dVar 1) (dVar 0)))
 (sSeq (sWhile (dBin fNe (dVar 3) (dC (.int 1))) (sSeq (sSet 4 (dBin fMod (dBin fMulA (dUn fNeg (dVar 4)) (dBin fDiv (dVar 0) (dVar 3))) (dVar 0)))
 (sSet 3 (dBin fMod (dVar 0) (dVar 3)))))
 (sRet (dVar 4))))))
noncomputable def fV_over : FN := fnV 5 b_over
noncomputable def b_times : DS :=
 (sRet (dComp (iSeq (dVar 2)) [none, some 0, some 1] (bName 0) (dC (.bl true)) (dBin fMod (dBin fMulA (dVar 2) (dVar 0)) (dVar 1))))
noncomputable def fV_times : FN := fnV 3 b_times
noncomputable def b_freed : DS :=
 (sSeq (sSet 4 (dIdx (dVar 1) (dVar 3)))
 (sSeq (sIf (dBin fEq (dVar 4) (dC (.int 0))) (sRet (dVar 1)) sNil)
 (sRet (dComp (iZip (dVar 1) (dVar 2)) [none, none, some 0, some 4] (bTup [0, 1]) (dC (.bl true)) (dBin fMod (dBin fSub (dVar 0) (dBin fMulA (dVar 3) (dVar 1))) (dVar 2))))))
noncomputable def fV_freed : FN := fnV 5 b_freed
noncomputable def b_first_place : DS :=
 (sSeq (sFor (iRange1 (dVar 1)) (bName 2) (sIf (dBin fNe (dIdx (dVar 0) (dVar 2)) (dC (.int 0))) (sRet (dVar 2)) sNil))
 (sRet (dC (.non))))
noncomputable def fV_first_place : FN := fnV 3 b_first_place
noncomputable def b_eased : DS :=
 (sSeq (sSet 3 (dCell (dC (.dct []))))
 (sSeq (sSet 4 (dCell (dLst [])))
 (sSeq (sFor (iSeq (dVar 1)) (bName 5) (sSeq (sSet 6 (dVar 5))
 (sSeq (sFor (iItems (dVar 3)) (bTup [7, 8]) (sSet 6 (dCall (cal fV_freed) [(dVar 0), (dVar 6), (dVar 8), (dVar 7)])))
 (sSeq (sSet 9 (dCall (cal fV_first_place) [(dVar 6), (dVar 2)]))
 (sIf (dUn isNon (dVar 9)) (sAppend (dVar 4) (dVar 6)) (sSeq (sSet 10 (dCall (cal fV_times) [(dVar 0), (dCall (cal fV_over) [(dVar 0), (dC (.int 1)), (dIdx (dVar 6) (dVar 9))]), (dVar 6)]))
 (sSeq (sFor (iSeq (dUn fKeys (dVar 3))) (bName 7) (sPutD 3 (dVar 7) (dCall (cal fV_freed) [(dVar 0), (dBin fGetD (dVar 3) (dVar 7)), (dVar 10), (dVar 9)])))
 (sPutD 3 (dVar 9) (dVar 10)))))))))
 (sRet (dTup [(dVar 3), (dVar 4)])))))
noncomputable def fV_eased : FN := fnV 11 b_eased
noncomputable def b_numbers_at : DS :=
 (sRet (dComp (iSeq (dVar 1)) [none, some 0, some 2] (bName 0) (dC (.bl true)) (dBin fMod (dIdx (dVar 0) (dVar 2)) (dVar 1))))
noncomputable def fV_numbers_at : FN := fnV 3 b_numbers_at
noncomputable def b_unit : DS :=
 (sSeq (sSet 2 (dCell (dRep fRep [(dC (.int 0))] (dVar 0))))
 (sSeq (sSetItem 2 (dVar 1) (dC (.int 1)))
 (sRet (dVar 2))))
noncomputable def fD_unit : FN := fnD 3 b_unit
noncomputable def b_nought_sum : DS :=
 (sSeq (sSet 4 (dCall (cal fD_unit) [(dVar 2), (dVar 3)]))
 (sSeq (sFor (iItems (dVar 1)) (bTup [5, 6]) (sSetItem 4 (dVar 5) (dBin fMod (dUn fNeg (dIdx (dVar 6) (dVar 3))) (dVar 0))))
 (sRet (dVar 4))))
noncomputable def fV_nought_sum : FN := fnV 7 b_nought_sum
noncomputable def b_nought_sums : DS :=
 (sSeq (sSet 3 (dLen (dVar 2)))
 (sSeq (sSet 4 (dIdx (dCall (cal fV_eased) [(dVar 0), (dComp (iRange1 (dVar 1)) [none, some 0, some 2] (bName 0) (dC (.bl true)) (dCall (cal fV_numbers_at) [(dVar 1), (dVar 2), (dVar 0)])), (dVar 3)]) (dC (.int 0))))
 (sRet (dCell (dComp (iRange1 (dVar 3)) [none, some 0, some 4, some 3] (bName 0) (dBin fNinD (dVar 0) (dVar 2)) (dCall (cal fV_nought_sum) [(dVar 1), (dVar 2), (dVar 3), (dVar 0)]))))))
noncomputable def fD_nought_sums : FN := fnD 5 b_nought_sums
noncomputable def fV_nought_sums : FN := fnV 5 b_nought_sums
noncomputable def b__law_cell : DS :=
 (sSeq (sIf (dBin fLt (dVar 1) (dLen (dVar 0))) (sRet (dIdx (dVar 0) (dVar 1))) sNil)
 (sSeq (sSet 2 (dBin fAdd (dBin fMulA (dVar 1) (dC (.int 7919))) (dC (.int 11))))
 (sSeq (sIf (dBin fGt (dLen (dVar 0)) (dC (.int 0))) (sSet 2 (dBin fAdd (dVar 2) (dBin fMulA (dBin fMod (dIdx (dVar 0) (dBin fMod (dBin fAdd (dBin fMulA (dC (.int 5)) (dVar 1)) (dC (.int 2))) (dLen (dVar 0)))) (dC (.int 2147483629))) (dC (.int 69621))))) sNil)
 (sSeq (sSet 2 (dBin fMod (dBin fMulA (dVar 2) (dVar 2)) (dC (.int 2147483647))))
 (sRet (dBin fMod (dBin fMulA (dVar 2) (dVar 2)) (dC (.int 998244353))))))))
noncomputable def fV__law_cell : FN := fnV 3 b__law_cell
noncomputable def b__law_row : DS :=
 (sSeq (sSet 3 (dCell (dLst [])))
 (sSeq (sIf (dBin fEq (dBin fMod (dVar 0) (dC (.int 2))) (dC (.int 0))) (sSeq (sSet 0 (dBin fDiv (dVar 0) (dC (.int 2))))
 (sSeq (sFor (iRange1 (dVar 2)) (bName 4) (sSeq (sAppend (dVar 3) (dBin fMod (dVar 0) (dVar 1)))
 (sSet 0 (dBin fDiv (dVar 0) (dVar 1)))))
 (sRet (dVar 3)))) sNil)
 (sSeq (sFor (iRange1 (dVar 2)) (bName 4) (sSeq (sSet 5 (dBin fMod (dBin fAdd (dBin fDiv (dVar 0) (dC (.int 2))) (dBin fMulA (dVar 4) (dC (.int 40503)))) (dC (.int 2147483629))))
 (sSeq (sSet 5 (dBin fMod (dBin fAdd (dBin fMulA (dVar 5) (dVar 5)) (dVar 4)) (dC (.int 998244353))))
 (sSeq (sSet 5 (dBin fMod (dBin fMulA (dVar 5) (dVar 5)) (dC (.int 2147483587))))
 (sAppend (dVar 3) (dBin fMod (dBin fDiv (dVar 5) (dC (.int 11))) (dVar 1)))))))
 (sRet (dVar 3)))))
noncomputable def fV__law_row : FN := fnV 6 b__law_row
noncomputable def b__law_p : DS :=
 (sSeq (sIf (dBin fEq (dBin fMod (dBin fDiv (dVar 0) (dC (.int 6))) (dC (.int 8))) (dC (.int 5))) (sRet (dIdx (dLst [(dC (.int 17)), (dC (.int 31)), (dC (.int 61)), (dC (.int 97))]) (dBin fMod (dBin fDiv (dVar 0) (dC (.int 48))) (dC (.int 4))))) sNil)
 (sRet (dIdx (dLst [(dC (.int 2)), (dC (.int 3)), (dC (.int 5)), (dC (.int 7)), (dC (.int 11)), (dC (.int 13))]) (dBin fMod (dVar 0) (dC (.int 6))))))
noncomputable def fV__law_p : FN := fnV 1 b__law_p
noncomputable def b__law_mixed : DS :=
 (sSeq (sSet 4 (dCell (dLst [])))
 (sSeq (sFor (iRange1 (dVar 1)) (bName 5) (sAppend (dVar 4) (dBin fMod (dUn fSum (dComp (iRange1 (dLen (dVar 2))) [none, some 3, some 5, some 2] (bName 0) (dC (.bl true)) (dBin fMulA (dIdx (dVar 1) (dVar 0)) (dIdx (dIdx (dVar 3) (dVar 0)) (dVar 2))))) (dVar 0))))
 (sRet (dUn fTuple (dVar 4)))))
noncomputable def fV__law_mixed : FN := fnV 6 b__law_mixed
noncomputable def b__law_lines : DS :=
 (sSeq (sSet 4 (dCell (dLst [])))
 (sSeq (sFor (iRange1 (dVar 3)) (bName 5) (sSeq (sSet 6 (dCall (cal fV__law_cell) [(dVar 0), (dBin fAdd (dC (.int 2)) (dVar 5))]))
 (sSeq (sSet 7 (dUn fTuple (dCall (cal fV__law_row) [(dBin fDiv (dVar 6) (dC (.int 5))), (dVar 1), (dVar 2)])))
 (sSeq (sIf (dAnd (dBin fEq (dBin fMod (dVar 6) (dC (.int 5))) (dC (.int 0))) (dBin fGt (dVar 5) (dC (.int 0)))) (sSet 7 (dIdx (dVar 4) (dBin fMod (dBin fDiv (dVar 6) (dC (.int 5))) (dVar 5)))) sNil)
 (sSeq (sIf (dAnd (dBin fEq (dBin fMod (dVar 6) (dC (.int 5))) (dC (.int 1))) (dBin fGt (dVar 5) (dC (.int 1)))) (sSet 7 (dCall (cal fV__law_mixed) [(dVar 1), (dVar 2), (dVar 4), (dCall (cal fV__law_row) [(dBin fDiv (dVar 6) (dC (.int 5))), (dVar 1), (dVar 5)])])) sNil)
 (sAppend (dVar 4) (dVar 7)))))))
 (sRet (dVar 4))))
noncomputable def fV__law_lines : FN := fnV 8 b__law_lines
noncomputable def b__law_new : DS :=
 (sSeq (sSet 3 (dCell (dLst [])))
 (sSeq (sFor (iSeq (dVar 2)) (bName 4) (sSeq (sSet 5 (dUn fList (dVar 4)))
 (sSeq (sFor (iSeq (dVar 3)) (bTup [6, 7]) (sSeq (sSet 8 (dIdx (dVar 5) (dVar 6)))
 (sSet 5 (dComp (iRange1 (dVar 1)) [none, some 0, some 5, some 8, some 7] (bName 0) (dC (.bl true)) (dBin fMod (dBin fSub (dIdx (dVar 2) (dVar 0)) (dBin fMulA (dVar 3) (dIdx (dVar 4) (dVar 0)))) (dVar 1))))))
 (sSeq (sSet 9 (dComp (iRange1 (dVar 1)) [none, some 5] (bName 0) (dBin fNe (dIdx (dVar 1) (dVar 0)) (dC (.int 0))) (dVar 0)))
 (sIf (dBin fNe (dVar 9) (dLst [])) (sSeq (sSet 6 (dIdx (dVar 9) (dC (.int 0))))
 (sSeq (sSet 10 (dC (.int 1)))
 (sSeq (sWhile (dBin fNe (dBin fMod (dBin fMulA (dVar 10) (dIdx (dVar 5) (dVar 6))) (dVar 0)) (dC (.int 1))) (sSet 10 (dBin fAdd (dVar 10) (dC (.int 1)))))
 (sAppend (dVar 3) (dTup [(dVar 6), (dComp (iSeq (dVar 5)) [none, some 0, some 10] (bName 0) (dC (.bl true)) (dBin fMod (dBin fMulA (dVar 2) (dVar 0)) (dVar 1)))]))))) sNil)))))
 (sRet (dLen (dVar 3)))))
noncomputable def fV__law_new : FN := fnV 11 b__law_new
noncomputable def b__law_numbers : DS :=
 (sSeq (sFor (iSeq (dVar 0)) (bName 2) (sIf (dOr (dNot (dIs .int (dVar 2))) (dOr (dIs .bool (dVar 2)) (dNot (dChain fLe fLt (dC (.int 0)) (dVar 2) (dVar 1))))) (sRet (dC (.bl false))) sNil))
 (sRet (dC (.bl true))))
noncomputable def fV__law_numbers : FN := fnV 3 b__law_numbers
noncomputable def law_s0 : DS := (sSet 1 (dCall (cal fV__law_cell) [(dVar 0), (dC (.int 0))]))
noncomputable def law_s1 : DS := (sSet 2 (dCall (cal fV__law_p) [(dVar 1)]))
noncomputable def law_s2 : DS := (sSet 3 (dBin fMod (dBin fDiv (dVar 1) (dC (.int 200))) (dC (.int 6))))
noncomputable def law_s3 : DS := (sSet 4 (dBin fMod (dBin fDiv (dVar 1) (dC (.int 1200))) (dC (.int 8))))
noncomputable def law_s4 : DS := (sIf (dBin fEq (dBin fMod (dBin fDiv (dVar 1) (dC (.int 9600))) (dC (.int 8))) (dC (.int 3))) (sSeq (sSet 3 (dBin fMod (dBin fDiv (dVar 1) (dC (.int 200))) (dC (.int 13))))
 (sSet 4 (dBin fMod (dBin fDiv (dVar 1) (dC (.int 2600))) (dC (.int 13))))) sNil)
noncomputable def law_s5 : DS := (sSet 5 (dCall (cal fV__law_lines) [(dVar 0), (dVar 2), (dVar 3), (dVar 4)]))
noncomputable def law_s6 : DS := (sSet 6 (dUn fList (dVar 5)))
noncomputable def law_s7 : DS := (sSet 7 (dCall (cal fD_nought_sums) [(dVar 2), (dVar 3), (dVar 6)]))
noncomputable def law_s8 : DS := (sIf (dOr (dBin fNe (dVar 6) (dVar 5)) (dOr (dNot (dIs .list (dVar 7))) (dBin fNe (dLen (dVar 7)) (dBin fSub (dVar 4) (dCall (cal fV__law_new) [(dVar 2), (dVar 3), (dVar 5)]))))) (sRet (dC (.bl false))) sNil)
noncomputable def law_s9 : DS := (sFor (iSeq (dVar 7)) (bName 8) (sSeq (sIf (dOr (dNot (dIs .list (dVar 8))) (dOr (dBin fNe (dLen (dVar 8)) (dVar 4)) (dNot (dCall (cal fV__law_numbers) [(dVar 8), (dVar 2)])))) (sRet (dC (.bl false))) sNil)
 (sIf (dBin fNe (dCall (cal fV__law_mixed) [(dVar 2), (dVar 3), (dVar 5), (dVar 8)]) (dUn fTuple (dComp (iRange1 (dVar 3)) [none] (bName 0) (dC (.bl true)) (dC (.int 0))))) (sRet (dC (.bl false))) sNil)))
noncomputable def law_s10 : DS := (sSet 9 (dLen (dVar 7)))
noncomputable def law_s11 : DS := (sIf (dBin fNe (dCall (cal fV__law_new) [(dVar 2), (dVar 4), (dVar 7)]) (dVar 9)) (sRet (dC (.bl false))) sNil)
noncomputable def law_s13 : DS := (sAppend (dVar 7) (dLst []))
noncomputable def law_s14 : DS := (sRet (dBin fEq (dLen (dCall (cal fV_nought_sums) [(dVar 2), (dVar 3), (dVar 5)])) (dVar 9)))
end Fw.k05
namespace Fw.k05
open PySem Fw
noncomputable def lawA : DS := sSeq law_s0 (sSeq law_s1 (sSeq law_s2 (sSeq law_s3 (sSeq law_s4 law_s5))))
noncomputable def lawB : DS := sSeq law_s6 (sSeq law_s7 (sSeq law_s8 (sSeq law_s9 (sSeq law_s10 law_s11))))
noncomputable def lawC : DS := sSeq law_s13 law_s14
noncomputable def Hlaw (ns : List Int) : Prop := ∃ (c p w m s : Int) (ls found : List (List Int)) (x6 x8 : Option SV),
 lawA [some (.val (.lst (ns.map T.int))), none, none, none, none, none, none, none, none, none] [] = .nx [some (.val (.lst (ns.map T.int))), some (.val (.int c)), some (.val (.int p)), some (.val (.int w)), some (.val (.int m)), some (.val (Rws ls)), none, none, none, none] [] ∧
 lawB [none, some (.val (.int c)), some (.val (.int p)), some (.val (.int w)), some (.val (.int m)), some (.val (Rws ls)), none, none, none, none] [] =
  .nx [none, some (.val (.int c)), some (.val (.int p)), some (.val (.int w)), some (.val (.int m)), some (.val (Rws ls)), x6, some (.cel 0), x8, some (.val (.int s))] [(true, .lst (found.map fun l => .lst (l.map T.int)))] ∧
 (ls = [] → found = []) ∧ found.length ≤ 100 ∧ (∀ l, l ∈ found → l.length ≤ 100) ∧
 ∀ ts : List T, ts.length = found.length → ∃ μ', lawC (E12 p w s ls) [(true, .lst ts)] = .rt (.val (.bl true)) μ'
end Fw.k05
namespace Fw
open PySem L2
theorem sSeq_assoc (a b c : DS) (e : Slots) (μ : Store) : sSeq (sSeq a b) c e μ = sSeq a (sSeq b c) e μ := by
 rw [sSeq_is, sSeq_is, sSeq_is]
 cases q : a e μ with
 | nx e1 μ1 => rw [RS.seq_nx, RS.seq_nx, sSeq_is]
 | _ => rfl
theorem assoc5 (a b c d f g : DS) (e : Slots) (μ : Store) : sSeq (sSeq (sSeq (sSeq (sSeq a b) c) d) f) g e μ = sSeq a (sSeq b (sSeq c (sSeq d (sSeq f g)))) e μ := by
 rw [sSeq_assoc, sSeq_assoc, sSeq_assoc, sSeq_assoc]
noncomputable def CPs (X : Cx) (st : List Stmt) (t : TS) : Prop := PSs X st t
noncomputable def CP (X : Cx) (st : Stmt) (t : TS) : Prop := PS X st t
theorem CPs.out {X : Cx} {st : List Stmt} {t : TS} (h : CPs X st t) : PSs X st t := h
theorem cp_cons {X : Cx} {st : Stmt} {sts : List Stmt} {d : DS} {t : TS} (h1 : CS X st d) (h2 : CPs X sts t) : CPs X (st :: sts) (tSeq (tDS X d) t) := pss_cons h1 h2
theorem cp_one {X : Cx} {st : Stmt} {d : DS} (h1 : CS X st d) : CPs X [st] (tDS X d) := pss_one h1
theorem cp_any {X : Cx} {st : Stmt} {sts : List Stmt} {t u : TS} (h1 : CP X st t) (h2 : CPs X sts u) : CPs X (st :: sts) (tSeq t u) := pss_cons h1 h2
theorem cp_poke {X : Cx} {tg iter o e1 : Expr} {apos cpos pos pos' : Pos} (hK : NoL X.K) (hp : PassesOwn (model X.prog X.w) X.A X.env X.xe) (hc : X.calm = true) (hi : CE X iter (dVar 7)) (hg : CB X tg (bName 8)) (ho : CE X o (dVar 8)) (he : CE X e1 (dC (.int 1)))
  (hbase : attributeBase o "append" X.env (eval o X.env) = eval o X.env := by rfl)
  (hfew : ((backTo cpos (starEach [e1] X.env)).all (fun x => !x.1) && (backToKw cpos (keywordEach [] X.env)).all (fun x => x.1.isSome) && decide (([e1] : List Expr).length + ([] : List Keyword).length + (if ([] : List Keyword).isEmpty then 0 else 1) < 30)) = true := by rfl)
  (hline : (apos.endLine == cpos.line) = true := by rfl) (hs1 : starEach [e1] X.env = (false, eval e1 X.env) :: starEach [] X.env := by rfl) (hpl : (backTo cpos (starEach [] X.env)).any (·.1) = false := by rfl)
  (hs : swapsWith (.Call (.Attribute o "append" apos) [e1] [] cpos) none pos'.line X.env = pure false := by rfl) (hf : ∀ x, foldedSetIterable iter X.env x = pure x := by intro _; rfl) :
  CP X (.For tg iter [.Expr (.Call (.Attribute o "append" apos) [e1] [] cpos) pos'] [] pos) (fun D σ H => ∃ p w s ls n a, At X.K p w s ls n 100 a σ H ∧ (ls = [] → n = 0) ∧ n ≤ 100 ∧ ∀ σ' H' N, At X.K p w s ls n N a σ' H' → D.nx σ' H') :=
 ps_poke hK hp hc hi hg ho he hbase hfew hline hs1 hpl hs hf
end Fw
namespace Fw.k05
open PySem L2 Fw
noncomputable def lawT (X : Cx) : TS := tSeq (tDS X law_s0) (tSeq (tDS X law_s1) (tSeq (tDS X law_s2) (tSeq (tDS X law_s3) (tSeq (tDS X law_s4) (tSeq (tDS X law_s5) (tSeq (tDS X law_s6) (tSeq (tDS X law_s7) (tSeq (tDS X law_s8) (tSeq (tDS X law_s9) (tSeq (tDS X law_s10) (tSeq (tDS X law_s11)
   (tSeq (fun D σ H => ∃ p w s ls n a, At X.K p w s ls n 100 a σ H ∧ (ls = [] → n = 0) ∧ n ≤ 100 ∧ ∀ σ' H' N, At X.K p w s ls n N a σ' H' → D.nx σ' H') (tSeq (tDS X law_s13) (tDS X law_s14))))))))))))))
theorem law_run {X : Cx} {N : List Str} {H : Hp} {a : Addr} {ns : List Int} {D : Ends} {c p w m sz : Int} {ls found : List (List Int)} {x6 x8 : Option SV} (hN : N.length = 10) (hK : NoL X.K) (hS : SqL X.K H a (ns.map V.int)) (hO : Only H)
  (hA : lawA [some (.val (.lst (ns.map T.int))), none, none, none, none, none, none, none, none, none] [] = .nx [some (.val (.lst (ns.map T.int))), some (.val (.int c)), some (.val (.int p)), some (.val (.int w)), some (.val (.int m)), some (.val (Rws ls)), none, none, none, none] [])
  (hB : lawB [none, some (.val (.int c)), some (.val (.int p)), some (.val (.int w)), some (.val (.int m)), some (.val (Rws ls)), none, none, none, none] [] =
   .nx [none, some (.val (.int c)), some (.val (.int p)), some (.val (.int w)), some (.val (.int m)), some (.val (Rws ls)), x6, some (.cel 0), x8, some (.val (.int sz))] [(true, .lst (found.map fun l => .lst (l.map T.int)))])
  (hls : ls = [] → found = []) (hf : found.length ≤ 100) (hfl : ∀ l, l ∈ found → l.length ≤ 100) (hC : ∀ ts : List T, ts.length = found.length → ∃ μ', lawC (E12 p w sz ls) [(true, .lst ts)] = .rt (.val (.bl true)) μ') (hQ : ∀ H', D.rt (.bl true) H') :
  lawT X D (L2.start N [.ref a]) H := by
 unfold lawT
 have one : One H := fun b c ob u ob2 u2 h1 h2 => hO.2 b c (by rw [h1]; simp) (by rw [h2]; simp)
 have hz : ∃ o, H a = some (.frz o (.lst (ns.map V.int))) := by
  rcases hS with (h | ⟨o, h⟩) | ⟨o, its, n, hk, hc, _⟩
  ·rcases hO.1 a with z | ⟨ob, xs, z⟩
   ·rw [h] at z; cases z
   ·rw [h] at z; cases z
  ·exact ⟨o, h⟩
  ·exact (hK.no hk hc).elim
 obtain ⟨o, hz⟩ := hz
 have S0 : Sim X.K H [] [some (.val (.lst (ns.map T.int))), none, none, none, none, none, none, none, none, none] [] (L2.start N [.ref a]) H := by
  have z : Rep X.K H (.lst (ns.map T.int)) (.ref a) := by
   rw [Rep]; exact ⟨a, _, rfl, hS, RepL.of_ints ns⟩
  have := sim_start (K := X.K) (F := H) (α := []) (μ := []) (N := N) (vs := [.ref a]) (xs := [.val (.lst (ns.map T.int))]) (H := H) ⟨Same.refl _, rfl, List.nodup_nil, fun k a h => by simp at h, fun k b t a h => by simp at h, one⟩ (.cons z .nil)
  rw [hN] at this
  exact this
 refine tseq (tseq (tseq (tseq (tseq (tstep S0 ((assoc5 _ _ _ _ _ _ _ _).trans hA) fun σ1 H1 F1 α1 x1 S1 => ?_)))))
 have hα : α1 = [] := List.eq_nil_of_length_eq_zero S1.st.len
 subst hα
 have hz1 := x1.same _ _ hz
 have S1' : ∃ F1', (ls ≠ [] → Sc F1' [] H1) ∧ Sim X.K F1' [] [none, some (.val (.int c)), some (.val (.int p)), some (.val (.int w)), some (.val (.int m)), some (.val (Rws ls)), none, none, none, none] [] σ1 H1 := by
  cases ls with
  | nil => exact ⟨F1, fun z => absurd rfl z, S1.back rfl fun j x h => by
    rcases j with _ | j
    ·cases h
    ·exact h⟩
  | cons l ls =>
   have hF : ∀ c, c ≠ a → (fun b => if b = a then none else F1 b : Hp) c = F1 c := fun c h => if_neg h
   refine ⟨fun b => if b = a then none else F1 b, fun _ => ⟨a, o, _, S1.st.ext _ _ hz1, if_pos rfl, by simp⟩, ⟨⟨fun b z hz => ?_, rfl, List.nodup_nil, fun k a h => by simp at h, fun k b t a h => by simp at h, S1.st.one⟩, fun i x h => ?_, S1.len⟩⟩
   ·by_cases eb : b = a
    ·rw [if_pos eb] at hz; cases hz
    ·rw [if_neg eb] at hz; exact S1.st.ext _ _ hz
   ·rcases i with _ | _ | _ | _ | _ | _ | i
    ·cases h
    ·cases h; exact S1.sl 1 _ rfl
    ·cases h; exact S1.sl 2 _ rfl
    ·cases h; exact S1.sl 3 _ rfl
    ·cases h; exact S1.sl 4 _ rfl
    ·cases h
     obtain ⟨v, v1, v2⟩ := S1.sl 5 _ rfl
     exact ⟨v, v1, rows_off hF (.inr ⟨o, hz1⟩) v2⟩
    ·rcases i with _ | _ | _ | _ | i <;> cases h
 obtain ⟨F1', sc1, S1'⟩ := S1'
 refine tseq (tseq (tseq (tseq (tseq (tstep S1' ((assoc5 _ _ _ _ _ _ _ _).trans hB) fun σ2 H2 F2 α2 x2 S2 => ?_)))))
 have S2' : Sim X.K F2 α2 (E12 p w sz ls) [(true, .lst (found.map fun l => .lst (l.map T.int)))] σ2 H2 := S2.back rfl fun j x h => by
  rcases j with _ | _ | _ | _ | _ | _ | _ | _ | _ | _ | j <;> first | exact h | cases h
 obtain ⟨a7, ha7⟩ := S2'.st.addr (k := 0) rfl
 refine ⟨p, w, sz, ls, found.length, a7, ⟨F2, α2, _, ha7, S2', fun z => (sc1 z).ex x2, by simp, fun t ht => ?_⟩, fun z => by rw [hls z]; rfl, hf, fun σ3 H3 N A3 => ?_⟩
 ·obtain ⟨l, hl, rfl⟩ := List.mem_map.mp ht
  exact ⟨l, rfl, hfl l hl⟩
 ·obtain ⟨F3, α3, ts, _, S3, _, hn3, _⟩ := A3
  obtain ⟨μ', hc⟩ := hC ts hn3
  refine tseq1 ⟨F3, α3, _, _, S3, ?_⟩
  have hc' : sSeq law_s13 law_s14 (E12 p w sz ls) [(true, .lst ts)] = .rt (.val (.bl true)) μ' := hc
  rw [hc']
  intro v H' F' α' x S' o
  have e : v = .bl true := Rep.of_bl (K := X.K) (F := F') o
  subst e
  exact hQ H'
end Fw.k05
section
set_option maxHeartbeats 4000000
namespace Fw.k05
open PySem L2 Fw
seal Fw.CE Fw.CT Fw.CA Fw.CS Fw.CSs Fw.CI Fw.CB Fw.CF Fw.CW Fw.CO L2.PIfs Fw.CPs Fw.CP
noncomputable def top (i : Nat) : Stmt := PySem.Challenge.pw_fewopen_k05_nought_sums_told.main.body.getD i (.Pass ⟨0, 0, 0, 0⟩)
noncomputable abbrev s_over : Stmt := top 4
noncomputable abbrev s_times : Stmt := top 6
noncomputable abbrev s_freed : Stmt := top 7
noncomputable abbrev s_first_place : Stmt := top 8
noncomputable abbrev s_eased : Stmt := top 9
noncomputable abbrev s_numbers_at : Stmt := top 10
noncomputable abbrev s_unit : Stmt := top 11
noncomputable abbrev s_nought_sum : Stmt := top 12
noncomputable abbrev s_nought_sums : Stmt := top 13
noncomputable abbrev s__law_cell : Stmt := top 15
noncomputable abbrev s__law_row : Stmt := top 16
noncomputable abbrev s__law_p : Stmt := top 17
noncomputable abbrev s__law_mixed : Stmt := top 18
noncomputable abbrev s__law_lines : Stmt := top 19
noncomputable abbrev s__law_new : Stmt := top 20
noncomputable abbrev s__law_numbers : Stmt := top 21
noncomputable abbrev s_law : Stmt := top 22
structure Tx (K : PySem.W.Frag) (mg : Str → Option Value) : Prop where
 n_bool : mg "bool" = none
 n_int : mg "int" = none
 n_isinstance : mg "isinstance" = none
 n_len : mg "len" = none
 n_list : mg "list" = none
 n_range : mg "range" = none
 n_sum : mg "sum" = none
 n_tuple : mg "tuple" = none
 n_zip : mg "zip" = none
noncomputable abbrev n0 : List Str := ["entry", "p", "number"]
noncomputable abbrev n1 : List Str := ["p", "number", "row"]
noncomputable abbrev n2 : List Str := ["entry", "other", "p", "number"]
noncomputable abbrev n3 : List Str := ["p", "row", "lead", "place", "number"]
noncomputable abbrev n4 : List Str := ["line", "p", "place"]
noncomputable abbrev n5 : List Str := ["p", "lines", "place"]
noncomputable abbrev n6 : List Str := ["place", "p", "lines"]
noncomputable abbrev n7 : List Str := ["p", "width", "lines", "many", "leads"]
noncomputable abbrev n8 : List Str := ["free", "p", "leads", "many"]
noncomputable abbrev n9 : List Str := ["_law_k", "_law_mix", "_law_place", "_law_lines_here"]
noncomputable abbrev n10 : List Str := ["_law_p_here", "_law_width", "_law_lines_here", "_law_mix", "_law_found", "_law_place"]
noncomputable abbrev n11 : List Str := ["_law_k", "_law_p_here", "_law_left", "_law_by", "_law_own"]
noncomputable abbrev n12 : List Str := ["_law_p_here", "_law_width", "_law_lines_here", "_law_kept", "_law_line", "_law_left", "_law_lead", "_law_own", "_law_by", "_law_places", "_law_number"]
noncomputable abbrev n13 : List Str := ["_law_k", "_law_left"]
noncomputable abbrev n14 : List Str := ["_law_one", "_law_p_here", "_law_number"]
noncomputable abbrev n15 : List Str := ["_law_place"]
noncomputable abbrev n16 : List Str := ["_law_script", "_law_cell_here", "_law_p_here", "_law_width", "_law_many", "_law_lines_here", "_law_handed", "_law_found", "_law_some", "_law_size"]
noncomputable abbrev n17 : List Str := ["p", "one", "other", "rest", "told"]
noncomputable abbrev n18 : List Str := ["p", "one", "other"]
noncomputable abbrev n19 : List Str := ["p", "row", "lead", "place"]
noncomputable abbrev n20 : List Str := ["row", "many", "place"]
noncomputable abbrev n21 : List Str := ["row", "many"]
noncomputable abbrev n22 : List Str := ["p", "rows", "many", "leads", "noughts", "row", "rest", "place", "lead", "found", "fresh"]
noncomputable abbrev n23 : List Str := ["p", "rows", "many"]
noncomputable abbrev n24 : List Str := ["width", "place", "row"]
noncomputable abbrev n25 : List Str := ["width", "place"]
noncomputable abbrev n26 : List Str := ["p", "leads", "many", "free", "multipliers", "place", "lead"]
noncomputable abbrev n27 : List Str := ["p", "leads", "many", "free"]
noncomputable abbrev n28 : List Str := ["p", "width", "lines"]
noncomputable abbrev n29 : List Str := ["_law_script", "_law_k", "_law_number"]
noncomputable abbrev n30 : List Str := ["_law_script", "_law_k"]
noncomputable abbrev n31 : List Str := ["_law_cell_here", "_law_most", "_law_many", "_law_found", "_law_turn", "_law_number"]
noncomputable abbrev n32 : List Str := ["_law_cell_here", "_law_most", "_law_many"]
noncomputable abbrev n33 : List Str := ["_law_cell_here"]
noncomputable abbrev n34 : List Str := ["_law_p_here", "_law_width", "_law_lines_here", "_law_mix"]
noncomputable abbrev n35 : List Str := ["_law_script", "_law_p_here", "_law_width", "_law_many", "_law_found", "_law_k", "_law_cell_here", "_law_line"]
noncomputable abbrev n36 : List Str := ["_law_script", "_law_p_here", "_law_width", "_law_many"]
noncomputable abbrev n37 : List Str := ["_law_p_here", "_law_width", "_law_lines_here"]
noncomputable abbrev n38 : List Str := ["_law_some", "_law_p_here", "_law_one"]
noncomputable abbrev n39 : List Str := ["_law_some", "_law_p_here"]
noncomputable abbrev n40 : List Str := ["_law_script"]
section
variable {P : Program} {w : World} {K : PySem.W.Frag} {mg : Str → Option Value} {base : Heap}
theorem sc_over : FnScope n17 n18 (defScope s_over) := ⟨rfl, rfl, rfl, by decide +kernel, rfl, by decide +kernel, by decide +kernel⟩
theorem okV_over {a_over : Addr} {d_over : FuncData} (T : Tx K mg) (g_over : Gf K mg "over" s_over n18 a_over d_over) :
  FnOk P w K mg base CX0 1 a_over d_over n18 (spD K fV_over 3) :=
 fn_ok .V g_over.F sc_over fun cdv A outer s H E hr => (css_cons (cs_set 3 sc_over.nd (ce_mod (ce_var 2) (ce_var 0)))
 (css_cons (cs_if (ct_eq hr (ce_var 3) ce_int) (css_one cs_bad) css_nil)
 (css_cons (cs_set 4 sc_over.nd (ce_mod (ce_var 1) (ce_var 0)))
 (css_cons (cs_while PassesOwn.never (ct_ne hr (ce_var 3) ce_int) (css_cons (cs_set 4 sc_over.nd (ce_mod (ce_mul (ce_neg (ce_var 4)) (ce_div (ce_var 0) (ce_var 3))) (ce_var 0)))
 (css_one (cs_set 3 sc_over.nd (ce_mod (ce_var 0) (ce_var 3))))))
 (css_one (cs_ret (ce_var 4)))))))
theorem sc_times : FnScope n1 n1 (defScope s_times) := ⟨rfl, rfl, rfl, by decide +kernel, rfl, by decide +kernel, by decide +kernel⟩
theorem okV_times {a_times : Addr} {d_times : FuncData} (T : Tx K mg) (g_times : Gf K mg "times" s_times n1 a_times d_times) :
  FnOk P w K mg base CX0 1 a_times d_times n1 (spD K fV_times 3) :=
 fn_ok .V g_times.F sc_times fun cdv A outer s H E hr => (css_one (cs_ret (CF.ce (cf_comp (N' := n0) rfl (compScope_of (defScope s_times) rfl n1 rfl (by decide +kernel)) rfl (leaves_name rfl) (ci_seq (ce_var 2)) (fun _ _ _ _ _ => (cb_name 0 (show n0.Nodup by decide +kernel))) (fun _ _ _ _ _ => pifs_true) (fun _ _ _ _ _ => (ce_mod (ce_mul (ce_var 2) (ce_var 0)) (ce_var 1)))))))
theorem sc_freed : FnScope n3 n19 (defScope s_freed) := ⟨rfl, rfl, rfl, by decide +kernel, rfl, by decide +kernel, by decide +kernel⟩
theorem okV_freed {a_freed : Addr} {d_freed : FuncData} (T : Tx K mg) (g_freed : Gf K mg "freed" s_freed n19 a_freed d_freed) :
  FnOk P w K mg base CX0 1 a_freed d_freed n19 (spD K fV_freed 4) :=
 fn_ok .V g_freed.F sc_freed fun cdv A outer s H E hr => (css_cons (cs_set 4 sc_freed.nd (ce_idx (ce_var 1) (ce_var 3)))
 (css_cons (cs_if (ct_eq hr (ce_var 4) ce_int) (css_one (cs_ret (ce_var 1))) css_nil)
 (css_one (cs_ret (CF.ce (cf_comp (N' := n2) rfl (compScope_of (defScope s_freed) rfl n3 rfl (by decide +kernel)) rfl (leaves_pair rfl rfl) (ci_zip T.n_zip (ce_var 1) (ce_var 2)) (fun _ _ _ _ _ => (cb_pair 0 1 (show n2.Nodup by decide +kernel) rfl)) (fun _ _ _ _ _ => pifs_true) (fun _ _ _ _ _ => (ce_mod (ce_sub (ce_var 0) (ce_mul (ce_var 3) (ce_var 1))) (ce_var 2)))))))))
theorem sc_first_place : FnScope n20 n21 (defScope s_first_place) := ⟨rfl, rfl, rfl, by decide +kernel, rfl, by decide +kernel, by decide +kernel⟩
theorem okV_first_place {a_first_place : Addr} {d_first_place : FuncData} (T : Tx K mg) (g_first_place : Gf K mg "first_place" s_first_place n21 a_first_place d_first_place) :
  FnOk P w K mg base CX0 1 a_first_place d_first_place n21 (spD K fV_first_place 2) :=
 fn_ok .V g_first_place.F sc_first_place fun cdv A outer s H E hr => (css_cons (cs_for PassesOwn.never rfl (ci_range1 T.n_range (ce_var 1)) (cb_name 2 sc_first_place.nd) (css_one (cs_if (ct_ne hr (ce_idx (ce_var 0) (ce_var 2)) ce_int) (css_one (cs_ret (ce_var 2))) css_nil)))
 (css_one (cs_ret ce_non)))
theorem sc_eased : FnScope n22 n23 (defScope s_eased) := ⟨rfl, rfl, rfl, by decide +kernel, rfl, by decide +kernel, by decide +kernel⟩
theorem okV_eased {a_eased : Addr} {d_eased : FuncData} (T : Tx K mg) (g_eased : Gf K mg "eased" s_eased n23 a_eased d_eased)
  {a_freed : Addr} {d_freed : FuncData} (g_freed : Gf K mg "freed" s_freed n19 a_freed d_freed)
  (GV_freed : FnOk P w K mg base CX0 1 a_freed d_freed n19 (spD K fV_freed 4))
  {a_first_place : Addr} {d_first_place : FuncData} (g_first_place : Gf K mg "first_place" s_first_place n21 a_first_place d_first_place)
  (GV_first_place : FnOk P w K mg base CX0 1 a_first_place d_first_place n21 (spD K fV_first_place 2))
  {a_over : Addr} {d_over : FuncData} (g_over : Gf K mg "over" s_over n18 a_over d_over)
  (GV_over : FnOk P w K mg base CX0 1 a_over d_over n18 (spD K fV_over 3))
  {a_times : Addr} {d_times : FuncData} (g_times : Gf K mg "times" s_times n1 a_times d_times)
  (GV_times : FnOk P w K mg base CX0 1 a_times d_times n1 (spD K fV_times 3)) :
  FnOk P w K mg base CX0 2 a_eased d_eased n23 (spD K fV_eased 3) :=
 fn_ok .V g_eased.F sc_eased fun cdv A outer s H E hr => (css_cons (cs_set 3 sc_eased.nd (CF.cell cf_dct))
 (css_cons (cs_set 4 sc_eased.nd (CF.cell (cf_lst ca_nil)))
 (css_cons (cs_for PassesOwn.never rfl (ci_seq (ce_var 1)) (cb_name 5 sc_eased.nd) (css_cons (cs_set 6 sc_eased.nd (ce_var 5))
 (css_cons (cs_for PassesOwn.never rfl (ci_items (ce_var 3)) (cb_pair 7 8 sc_eased.nd rfl) (css_one (cs_set 6 sc_eased.nd (ce_call GV_freed (hr.mono (by decide)) g_freed.m g_freed.F.kp g_freed.b (ca_cons (ce_var 0) (ca_cons (ce_var 6) (ca_cons (ce_var 8) (ca_cons (ce_var 7) ca_nil))))))))
 (css_cons (cs_set 9 sc_eased.nd (ce_call GV_first_place (hr.mono (by decide)) g_first_place.m g_first_place.F.kp g_first_place.b (ca_cons (ce_var 6) (ca_cons (ce_var 2) ca_nil))))
 (css_one (cs_if (ct_isN (ce_var 9)) (css_one (cs_append (ce_var 4) (ce_var 6))) (css_cons (cs_set 10 sc_eased.nd (ce_call GV_times (hr.mono (by decide)) g_times.m g_times.F.kp g_times.b (ca_cons (ce_var 0) (ca_cons (ce_call GV_over (hr.mono (by decide)) g_over.m g_over.F.kp g_over.b (ca_cons (ce_var 0) (ca_cons ce_int (ca_cons (ce_idx (ce_var 6) (ce_var 9)) ca_nil)))) (ca_cons (ce_var 6) ca_nil)))))
 (css_cons (cs_for PassesOwn.never rfl (ci_seq (CF.ce (cf_listD T.n_list (ce_var 3)))) (cb_name 7 sc_eased.nd) (css_one (cs_putD hr 3 (ce_var 7) (ce_call GV_freed (hr.mono (by decide)) g_freed.m g_freed.F.kp g_freed.b (ca_cons (ce_var 0) (ca_cons (ce_getD hr (ce_var 3) (ce_var 7)) (ca_cons (ce_var 10) (ca_cons (ce_var 9) ca_nil))))))))
 (css_one (cs_putD hr 3 (ce_var 9) (ce_var 10)))))))))))
 (css_one (cs_ret (ce_tup (ca_cons (ce_var 3) (ca_cons (ce_var 4) ca_nil))))))))
theorem sc_numbers_at : FnScope n5 n5 (defScope s_numbers_at) := ⟨rfl, rfl, rfl, by decide +kernel, rfl, by decide +kernel, by decide +kernel⟩
theorem okV_numbers_at {a_numbers_at : Addr} {d_numbers_at : FuncData} (T : Tx K mg) (g_numbers_at : Gf K mg "numbers_at" s_numbers_at n5 a_numbers_at d_numbers_at) :
  FnOk P w K mg base CX0 1 a_numbers_at d_numbers_at n5 (spD K fV_numbers_at 3) :=
 fn_ok .V g_numbers_at.F sc_numbers_at fun cdv A outer s H E hr => (css_one (cs_ret (CF.ce (cf_comp (N' := n4) rfl (compScope_of (defScope s_numbers_at) rfl n5 rfl (by decide +kernel)) rfl (leaves_name rfl) (ci_seq (ce_var 1)) (fun _ _ _ _ _ => (cb_name 0 (show n4.Nodup by decide +kernel))) (fun _ _ _ _ _ => pifs_true) (fun _ _ _ _ _ => (ce_mod (ce_idx (ce_var 0) (ce_var 2)) (ce_var 1)))))))
theorem sc_unit : FnScope n24 n25 (defScope s_unit) := ⟨rfl, rfl, rfl, by decide +kernel, rfl, by decide +kernel, by decide +kernel⟩
theorem okD_unit {a_unit : Addr} {d_unit : FuncData} (T : Tx K mg) (g_unit : Gf K mg "unit" s_unit n25 a_unit d_unit) :
  FnOk P w K mg base CX0 1 a_unit d_unit n25 (spD K fD_unit 2) :=
 fn_ok .D g_unit.F sc_unit fun cdv A outer s H E hr => (css_cons (cs_set 2 sc_unit.nd (CF.cell (cf_rep (ca_cons ce_int ca_nil) (ce_var 0))))
 (css_cons (cs_setItem 2 (ce_var 1) ce_int)
 (css_one (cs_ret (ce_var 2)))))
theorem sc_nought_sum : FnScope n26 n27 (defScope s_nought_sum) := ⟨rfl, rfl, rfl, by decide +kernel, rfl, by decide +kernel, by decide +kernel⟩
theorem okV_nought_sum {a_nought_sum : Addr} {d_nought_sum : FuncData} (T : Tx K mg) (g_nought_sum : Gf K mg "nought_sum" s_nought_sum n27 a_nought_sum d_nought_sum)
  {a_unit : Addr} {d_unit : FuncData} (g_unit : Gf K mg "unit" s_unit n25 a_unit d_unit)
  (GD_unit : FnOk P w K mg base CX0 1 a_unit d_unit n25 (spD K fD_unit 2)) :
  FnOk P w K mg base CX0 2 a_nought_sum d_nought_sum n27 (spD K fV_nought_sum 4) :=
 fn_ok .V g_nought_sum.F sc_nought_sum fun cdv A outer s H E hr => (css_cons (cs_set 4 sc_nought_sum.nd (ce_call GD_unit (hr.mono (by decide)) g_unit.m g_unit.F.kp g_unit.b (ca_cons (ce_var 2) (ca_cons (ce_var 3) ca_nil))))
 (css_cons (cs_for PassesOwn.never rfl (ci_items (ce_var 1)) (cb_pair 5 6 sc_nought_sum.nd rfl) (css_one (cs_setItem 4 (ce_var 5) (ce_mod (ce_neg (ce_idx (ce_var 6) (ce_var 3))) (ce_var 0)))))
 (css_one (cs_ret (ce_var 4)))))
theorem sc_nought_sums : FnScope n7 n28 (defScope s_nought_sums) := ⟨rfl, rfl, rfl, by decide +kernel, rfl, by decide +kernel, by decide +kernel⟩
theorem okD_nought_sums {a_nought_sums : Addr} {d_nought_sums : FuncData} (T : Tx K mg) (g_nought_sums : Gf K mg "nought_sums" s_nought_sums n28 a_nought_sums d_nought_sums)
  {a_numbers_at : Addr} {d_numbers_at : FuncData} (g_numbers_at : Gf K mg "numbers_at" s_numbers_at n5 a_numbers_at d_numbers_at)
  (GV_numbers_at : FnOk P w K mg base CX0 1 a_numbers_at d_numbers_at n5 (spD K fV_numbers_at 3))
  {a_eased : Addr} {d_eased : FuncData} (g_eased : Gf K mg "eased" s_eased n23 a_eased d_eased)
  (GV_eased : FnOk P w K mg base CX0 2 a_eased d_eased n23 (spD K fV_eased 3))
  {a_nought_sum : Addr} {d_nought_sum : FuncData} (g_nought_sum : Gf K mg "nought_sum" s_nought_sum n27 a_nought_sum d_nought_sum)
  (GV_nought_sum : FnOk P w K mg base CX0 2 a_nought_sum d_nought_sum n27 (spD K fV_nought_sum 4)) :
  FnOk P w K mg base CX0 3 a_nought_sums d_nought_sums n28 (spD K fD_nought_sums 3) :=
 fn_ok .D g_nought_sums.F sc_nought_sums fun cdv A outer s H E hr => (css_cons (cs_set 3 sc_nought_sums.nd (ce_len T.n_len (ce_var 2)))
 (css_cons (cs_set 4 sc_nought_sums.nd (ce_idx (ce_call GV_eased (hr.mono (by decide)) g_eased.m g_eased.F.kp g_eased.b (ca_cons (ce_var 0) (ca_cons (CF.ce (cf_comp (N' := n6) rfl (compScope_of (defScope s_nought_sums) rfl n7 rfl (by decide +kernel)) rfl (leaves_name rfl) (ci_range1 T.n_range (ce_var 1)) (fun _ _ _ _ _ => (cb_name 0 (show n6.Nodup by decide +kernel))) (fun _ _ _ _ _ => pifs_true) (fun _ _ _ _ _ => (ce_call GV_numbers_at (hr.mono (by decide)) g_numbers_at.m g_numbers_at.F.kp g_numbers_at.b (ca_cons (ce_var 1) (ca_cons (ce_var 2) (ca_cons (ce_var 0) ca_nil))))))) (ca_cons (ce_var 3) ca_nil)))) ce_int))
 (css_one (cs_ret (CF.cell (cf_comp (N' := n8) rfl (compScope_of (defScope s_nought_sums) rfl n7 rfl (by decide +kernel)) rfl (leaves_name rfl) (ci_range1 T.n_range (ce_var 3)) (fun _ _ _ _ _ => (cb_name 0 (show n8.Nodup by decide +kernel))) (fun _ _ _ _ _ => (pifs_test (ct_ninD hr (ce_var 0) (ce_var 2)))) (fun _ _ _ _ _ => (ce_call GV_nought_sum (hr.mono (by decide)) g_nought_sum.m g_nought_sum.F.kp g_nought_sum.b (ca_cons (ce_var 1) (ca_cons (ce_var 2) (ca_cons (ce_var 3) (ca_cons (ce_var 0) ca_nil))))))))))))
theorem okV_nought_sums {a_nought_sums : Addr} {d_nought_sums : FuncData} (T : Tx K mg) (g_nought_sums : Gf K mg "nought_sums" s_nought_sums n28 a_nought_sums d_nought_sums)
  {a_numbers_at : Addr} {d_numbers_at : FuncData} (g_numbers_at : Gf K mg "numbers_at" s_numbers_at n5 a_numbers_at d_numbers_at)
  (GV_numbers_at : FnOk P w K mg base CX0 1 a_numbers_at d_numbers_at n5 (spD K fV_numbers_at 3))
  {a_eased : Addr} {d_eased : FuncData} (g_eased : Gf K mg "eased" s_eased n23 a_eased d_eased)
  (GV_eased : FnOk P w K mg base CX0 2 a_eased d_eased n23 (spD K fV_eased 3))
  {a_nought_sum : Addr} {d_nought_sum : FuncData} (g_nought_sum : Gf K mg "nought_sum" s_nought_sum n27 a_nought_sum d_nought_sum)
  (GV_nought_sum : FnOk P w K mg base CX0 2 a_nought_sum d_nought_sum n27 (spD K fV_nought_sum 4)) :
  FnOk P w K mg base CX0 3 a_nought_sums d_nought_sums n28 (spD K fV_nought_sums 3) :=
 fn_ok .V g_nought_sums.F sc_nought_sums fun cdv A outer s H E hr => (css_cons (cs_set 3 sc_nought_sums.nd (ce_len T.n_len (ce_var 2)))
 (css_cons (cs_set 4 sc_nought_sums.nd (ce_idx (ce_call GV_eased (hr.mono (by decide)) g_eased.m g_eased.F.kp g_eased.b (ca_cons (ce_var 0) (ca_cons (CF.ce (cf_comp (N' := n6) rfl (compScope_of (defScope s_nought_sums) rfl n7 rfl (by decide +kernel)) rfl (leaves_name rfl) (ci_range1 T.n_range (ce_var 1)) (fun _ _ _ _ _ => (cb_name 0 (show n6.Nodup by decide +kernel))) (fun _ _ _ _ _ => pifs_true) (fun _ _ _ _ _ => (ce_call GV_numbers_at (hr.mono (by decide)) g_numbers_at.m g_numbers_at.F.kp g_numbers_at.b (ca_cons (ce_var 1) (ca_cons (ce_var 2) (ca_cons (ce_var 0) ca_nil))))))) (ca_cons (ce_var 3) ca_nil)))) ce_int))
 (css_one (cs_ret (CF.cell (cf_comp (N' := n8) rfl (compScope_of (defScope s_nought_sums) rfl n7 rfl (by decide +kernel)) rfl (leaves_name rfl) (ci_range1 T.n_range (ce_var 3)) (fun _ _ _ _ _ => (cb_name 0 (show n8.Nodup by decide +kernel))) (fun _ _ _ _ _ => (pifs_test (ct_ninD hr (ce_var 0) (ce_var 2)))) (fun _ _ _ _ _ => (ce_call GV_nought_sum (hr.mono (by decide)) g_nought_sum.m g_nought_sum.F.kp g_nought_sum.b (ca_cons (ce_var 1) (ca_cons (ce_var 2) (ca_cons (ce_var 3) (ca_cons (ce_var 0) ca_nil))))))))))))
theorem sc__law_cell : FnScope n29 n30 (defScope s__law_cell) := ⟨rfl, rfl, rfl, by decide +kernel, rfl, by decide +kernel, by decide +kernel⟩
theorem okV__law_cell {a__law_cell : Addr} {d__law_cell : FuncData} (T : Tx K mg) (g__law_cell : Gf K mg "_law_cell" s__law_cell n30 a__law_cell d__law_cell) :
  FnOk P w K mg base CX0 1 a__law_cell d__law_cell n30 (spD K fV__law_cell 2) :=
 fn_ok .V g__law_cell.F sc__law_cell fun cdv A outer s H E hr => (css_cons (cs_if (ct_lt (ce_var 1) (ce_len T.n_len (ce_var 0))) (css_one (cs_ret (ce_idx (ce_var 0) (ce_var 1)))) css_nil)
 (css_cons (cs_set 2 sc__law_cell.nd (ce_add (ce_mul (ce_var 1) ce_int) ce_int))
 (css_cons (cs_if (ct_gt (ce_len T.n_len (ce_var 0)) ce_int) (css_one (cs_set 2 sc__law_cell.nd (ce_add (ce_var 2) (ce_mul (ce_mod (ce_idx (ce_var 0) (ce_mod (ce_add (ce_mul ce_int (ce_var 1)) ce_int) (ce_len T.n_len (ce_var 0)))) ce_int) ce_int)))) css_nil)
 (css_cons (cs_set 2 sc__law_cell.nd (ce_mod (ce_mul (ce_var 2) (ce_var 2)) ce_int))
 (css_one (cs_ret (ce_mod (ce_mul (ce_var 2) (ce_var 2)) ce_int)))))))
theorem sc__law_row : FnScope n31 n32 (defScope s__law_row) := ⟨rfl, rfl, rfl, by decide +kernel, rfl, by decide +kernel, by decide +kernel⟩
theorem okV__law_row {a__law_row : Addr} {d__law_row : FuncData} (T : Tx K mg) (g__law_row : Gf K mg "_law_row" s__law_row n32 a__law_row d__law_row) :
  FnOk P w K mg base CX0 1 a__law_row d__law_row n32 (spD K fV__law_row 3) :=
 fn_ok .V g__law_row.F sc__law_row fun cdv A outer s H E hr => (css_cons (cs_set 3 sc__law_row.nd (CF.cell (cf_lst ca_nil)))
 (css_cons (cs_if (ct_eq hr (ce_mod (ce_var 0) ce_int) ce_int) (css_cons (cs_set 0 sc__law_row.nd (ce_div (ce_var 0) ce_int))
 (css_cons (cs_for PassesOwn.never rfl (ci_range1 T.n_range (ce_var 2)) (cb_name 4 sc__law_row.nd) (css_cons (cs_append (ce_var 3) (ce_mod (ce_var 0) (ce_var 1)))
 (css_one (cs_set 0 sc__law_row.nd (ce_div (ce_var 0) (ce_var 1))))))
 (css_one (cs_ret (ce_var 3))))) css_nil)
 (css_cons (cs_for PassesOwn.never rfl (ci_range1 T.n_range (ce_var 2)) (cb_name 4 sc__law_row.nd) (css_cons (cs_set 5 sc__law_row.nd (ce_mod (ce_add (ce_div (ce_var 0) ce_int) (ce_mul (ce_var 4) ce_int)) ce_int))
 (css_cons (cs_set 5 sc__law_row.nd (ce_mod (ce_add (ce_mul (ce_var 5) (ce_var 5)) (ce_var 4)) ce_int))
 (css_cons (cs_set 5 sc__law_row.nd (ce_mod (ce_mul (ce_var 5) (ce_var 5)) ce_int))
 (css_one (cs_append (ce_var 3) (ce_mod (ce_div (ce_var 5) ce_int) (ce_var 1))))))))
 (css_one (cs_ret (ce_var 3))))))
theorem sc__law_p : FnScope n33 n33 (defScope s__law_p) := ⟨rfl, rfl, rfl, by decide +kernel, rfl, by decide +kernel, by decide +kernel⟩
theorem okV__law_p {a__law_p : Addr} {d__law_p : FuncData} (T : Tx K mg) (g__law_p : Gf K mg "_law_p" s__law_p n33 a__law_p d__law_p) :
  FnOk P w K mg base CX0 1 a__law_p d__law_p n33 (spD K fV__law_p 1) :=
 fn_ok .V g__law_p.F sc__law_p fun cdv A outer s H E hr => (css_cons (cs_if (ct_eq hr (ce_mod (ce_div (ce_var 0) ce_int) ce_int) ce_int) (css_one (cs_ret (ce_idx (CF.ce (cf_lst (ca_cons ce_int (ca_cons ce_int (ca_cons ce_int (ca_cons ce_int ca_nil)))))) (ce_mod (ce_div (ce_var 0) ce_int) ce_int)))) css_nil)
 (css_one (cs_ret (ce_idx (CF.ce (cf_lst (ca_cons ce_int (ca_cons ce_int (ca_cons ce_int (ca_cons ce_int (ca_cons ce_int (ca_cons ce_int ca_nil)))))))) (ce_mod (ce_var 0) ce_int)))))
theorem sc__law_mixed : FnScope n10 n34 (defScope s__law_mixed) := ⟨rfl, rfl, rfl, by decide +kernel, rfl, by decide +kernel, by decide +kernel⟩
theorem okV__law_mixed {a__law_mixed : Addr} {d__law_mixed : FuncData} (T : Tx K mg) (g__law_mixed : Gf K mg "_law_mixed" s__law_mixed n34 a__law_mixed d__law_mixed) :
  FnOk P w K mg base CX0 1 a__law_mixed d__law_mixed n34 (spD K fV__law_mixed 4) :=
 fn_ok .V g__law_mixed.F sc__law_mixed fun cdv A outer s H E hr => (css_cons (cs_set 4 sc__law_mixed.nd (CF.cell (cf_lst ca_nil)))
 (css_cons (cs_for PassesOwn.never rfl (ci_range1 T.n_range (ce_var 1)) (cb_name 5 sc__law_mixed.nd) (css_one (cs_append (ce_var 4) (ce_mod (ce_sum hr T.n_sum (CF.ce (cf_comp (N' := n9) rfl (compScope_of (defScope s__law_mixed) rfl n10 rfl (by decide +kernel)) rfl (leaves_name rfl) (ci_range1 T.n_range (ce_len T.n_len (ce_var 2))) (fun _ _ _ _ _ => (cb_name 0 (show n9.Nodup by decide +kernel))) (fun _ _ _ _ _ => pifs_true) (fun _ _ _ _ _ => (ce_mul (ce_idx (ce_var 1) (ce_var 0)) (ce_idx (ce_idx (ce_var 3) (ce_var 0)) (ce_var 2))))))) (ce_var 0)))))
 (css_one (cs_ret (ce_tuple T.n_tuple (ce_var 4))))))
theorem sc__law_lines : FnScope n35 n36 (defScope s__law_lines) := ⟨rfl, rfl, rfl, by decide +kernel, rfl, by decide +kernel, by decide +kernel⟩
theorem okV__law_lines {a__law_lines : Addr} {d__law_lines : FuncData} (T : Tx K mg) (g__law_lines : Gf K mg "_law_lines" s__law_lines n36 a__law_lines d__law_lines)
  {a__law_cell : Addr} {d__law_cell : FuncData} (g__law_cell : Gf K mg "_law_cell" s__law_cell n30 a__law_cell d__law_cell)
  (GV__law_cell : FnOk P w K mg base CX0 1 a__law_cell d__law_cell n30 (spD K fV__law_cell 2))
  {a__law_row : Addr} {d__law_row : FuncData} (g__law_row : Gf K mg "_law_row" s__law_row n32 a__law_row d__law_row)
  (GV__law_row : FnOk P w K mg base CX0 1 a__law_row d__law_row n32 (spD K fV__law_row 3))
  {a__law_mixed : Addr} {d__law_mixed : FuncData} (g__law_mixed : Gf K mg "_law_mixed" s__law_mixed n34 a__law_mixed d__law_mixed)
  (GV__law_mixed : FnOk P w K mg base CX0 1 a__law_mixed d__law_mixed n34 (spD K fV__law_mixed 4)) :
  FnOk P w K mg base CX0 2 a__law_lines d__law_lines n36 (spD K fV__law_lines 4) :=
 fn_ok .V g__law_lines.F sc__law_lines fun cdv A outer s H E hr => (css_cons (cs_set 4 sc__law_lines.nd (CF.cell (cf_lst ca_nil)))
 (css_cons (cs_for PassesOwn.never rfl (ci_range1 T.n_range (ce_var 3)) (cb_name 5 sc__law_lines.nd) (css_cons (cs_set 6 sc__law_lines.nd (ce_call GV__law_cell (hr.mono (by decide)) g__law_cell.m g__law_cell.F.kp g__law_cell.b (ca_cons (ce_var 0) (ca_cons (ce_add ce_int (ce_var 5)) ca_nil))))
 (css_cons (cs_set 7 sc__law_lines.nd (ce_tuple T.n_tuple (ce_call GV__law_row (hr.mono (by decide)) g__law_row.m g__law_row.F.kp g__law_row.b (ca_cons (ce_div (ce_var 6) ce_int) (ca_cons (ce_var 1) (ca_cons (ce_var 2) ca_nil))))))
 (css_cons (cs_if (CW.ct (cw_and (ct_eq hr (ce_mod (ce_var 6) ce_int) ce_int) (cw_one_and (ct_gt (ce_var 5) ce_int)))) (css_one (cs_set 7 sc__law_lines.nd (ce_idx (ce_var 4) (ce_mod (ce_div (ce_var 6) ce_int) (ce_var 5))))) css_nil)
 (css_cons (cs_if (CW.ct (cw_and (ct_eq hr (ce_mod (ce_var 6) ce_int) ce_int) (cw_one_and (ct_gt (ce_var 5) ce_int)))) (css_one (cs_set 7 sc__law_lines.nd (ce_call GV__law_mixed (hr.mono (by decide)) g__law_mixed.m g__law_mixed.F.kp g__law_mixed.b (ca_cons (ce_var 1) (ca_cons (ce_var 2) (ca_cons (ce_var 4) (ca_cons (ce_call GV__law_row (hr.mono (by decide)) g__law_row.m g__law_row.F.kp g__law_row.b (ca_cons (ce_div (ce_var 6) ce_int) (ca_cons (ce_var 1) (ca_cons (ce_var 5) ca_nil)))) ca_nil))))))) css_nil)
 (css_one (cs_append (ce_var 4) (ce_var 7))))))))
 (css_one (cs_ret (ce_var 4)))))
theorem sc__law_new : FnScope n12 n37 (defScope s__law_new) := ⟨rfl, rfl, rfl, by decide +kernel, rfl, by decide +kernel, by decide +kernel⟩
theorem okV__law_new {a__law_new : Addr} {d__law_new : FuncData} (T : Tx K mg) (g__law_new : Gf K mg "_law_new" s__law_new n37 a__law_new d__law_new) :
  FnOk P w K mg base CX0 1 a__law_new d__law_new n37 (spD K fV__law_new 3) :=
 fn_ok .V g__law_new.F sc__law_new fun cdv A outer s H E hr => (css_cons (cs_set 3 sc__law_new.nd (CF.cell (cf_lst ca_nil)))
 (css_cons (cs_for PassesOwn.never rfl (ci_seq (ce_var 2)) (cb_name 4 sc__law_new.nd) (css_cons (cs_set 5 sc__law_new.nd (CF.ce (cf_list T.n_list (ce_var 4))))
 (css_cons (cs_for PassesOwn.never rfl (ci_seq (ce_var 3)) (cb_pair 6 7 sc__law_new.nd rfl) (css_cons (cs_set 8 sc__law_new.nd (ce_idx (ce_var 5) (ce_var 6)))
 (css_one (cs_set 5 sc__law_new.nd (CF.ce (cf_comp (N' := n11) rfl (compScope_of (defScope s__law_new) rfl n12 rfl (by decide +kernel)) rfl (leaves_name rfl) (ci_range1 T.n_range (ce_var 1)) (fun _ _ _ _ _ => (cb_name 0 (show n11.Nodup by decide +kernel))) (fun _ _ _ _ _ => pifs_true) (fun _ _ _ _ _ => (ce_mod (ce_sub (ce_idx (ce_var 2) (ce_var 0)) (ce_mul (ce_var 3) (ce_idx (ce_var 4) (ce_var 0)))) (ce_var 1)))))))))
 (css_cons (cs_of_setV (cs_set_comp 9 (N' := n13) rfl (compScope_of (defScope s__law_new) rfl n12 rfl (by decide +kernel)) rfl (leaves_name rfl) (ci_range1 T.n_range (ce_var 1)) (fun _ _ _ _ _ => (cb_name 0 (show n13.Nodup by decide +kernel))) (fun _ _ _ _ _ => (pifs_test (ct_ne hr (ce_idx (ce_var 1) (ce_var 0)) ce_int))) (fun _ _ _ _ _ => (ce_var 0)) sc__law_new.nd) fun _ _ _ _ h => dComp_val h)
 (css_one (cs_if (ct_ne hr (ce_var 9) (CF.ce (cf_lst ca_nil))) (css_cons (cs_set 6 sc__law_new.nd (ce_idx (ce_var 9) ce_int))
 (css_cons (cs_set 10 sc__law_new.nd ce_int)
 (css_cons (cs_while PassesOwn.never (ct_ne hr (ce_mod (ce_mul (ce_var 10) (ce_idx (ce_var 5) (ce_var 6))) (ce_var 0)) ce_int) (css_one (cs_set 10 sc__law_new.nd (ce_add (ce_var 10) ce_int))))
 (css_one (cs_append (ce_var 3) (ce_tup (ca_cons (ce_var 6) (ca_cons (CF.ce (cf_comp (N' := n14) rfl (compScope_of (defScope s__law_new) rfl n12 rfl (by decide +kernel)) rfl (leaves_name rfl) (ci_seq (ce_var 5)) (fun _ _ _ _ _ => (cb_name 0 (show n14.Nodup by decide +kernel))) (fun _ _ _ _ _ => pifs_true) (fun _ _ _ _ _ => (ce_mod (ce_mul (ce_var 2) (ce_var 0)) (ce_var 1))))) ca_nil)))))))) css_nil))))))
 (css_one (cs_ret (ce_len T.n_len (ce_var 3))))))
theorem sc__law_numbers : FnScope n38 n39 (defScope s__law_numbers) := ⟨rfl, rfl, rfl, by decide +kernel, rfl, by decide +kernel, by decide +kernel⟩
theorem okV__law_numbers {a__law_numbers : Addr} {d__law_numbers : FuncData} (T : Tx K mg) (g__law_numbers : Gf K mg "_law_numbers" s__law_numbers n39 a__law_numbers d__law_numbers) :
  FnOk P w K mg base CX0 1 a__law_numbers d__law_numbers n39 (spD K fV__law_numbers 2) :=
 fn_ok .V g__law_numbers.F sc__law_numbers fun cdv A outer s H E hr => (css_cons (cs_for PassesOwn.never rfl (ci_seq (ce_var 0)) (cb_name 2 sc__law_numbers.nd) (css_one (cs_if (CW.ct (cw_or (ct_not (ct_val (ce_is_int T.n_isinstance T.n_int (ce_var 2)))) (cw_or (ct_val (ce_is_bool T.n_isinstance T.n_bool (ce_var 2))) (cw_one_or (ct_not (ct_chain_le_lt ce_int (ce_var 2) (ce_var 1))))))) (css_one (cs_ret ce_bl)) css_nil)))
 (css_one (cs_ret ce_bl)))
theorem sc_law : FnScope n16 n40 (defScope s_law) := ⟨rfl, rfl, rfl, by decide +kernel, rfl, by decide +kernel, by decide +kernel⟩
noncomputable def sp5 (K : PySem.W.Frag) : Sp := fun vs H Q _ => vs.length = 1 ∧ ∃ (a : Addr) (ns : List Int), vs = [.ref a] ∧ ns.length ≤ 63 ∧ SqL K H a (ns.map V.int) ∧ Only H ∧ ∀ H', Q (.bl true) H'
theorem ok_law {a_law : Addr} {d_law : FuncData} (hK : NoL K) (hlaw : ∀ ns : List Int, ns.length ≤ 63 → Hlaw ns) (T : Tx K mg) (g_law : Gf K mg "law" s_law n40 a_law d_law)
  {a__law_cell : Addr} {d__law_cell : FuncData} (g__law_cell : Gf K mg "_law_cell" s__law_cell n30 a__law_cell d__law_cell)
  (GV__law_cell : FnOk P w K mg base CX0 1 a__law_cell d__law_cell n30 (spD K fV__law_cell 2))
  {a__law_p : Addr} {d__law_p : FuncData} (g__law_p : Gf K mg "_law_p" s__law_p n33 a__law_p d__law_p)
  (GV__law_p : FnOk P w K mg base CX0 1 a__law_p d__law_p n33 (spD K fV__law_p 1))
  {a__law_lines : Addr} {d__law_lines : FuncData} (g__law_lines : Gf K mg "_law_lines" s__law_lines n36 a__law_lines d__law_lines)
  (GV__law_lines : FnOk P w K mg base CX0 2 a__law_lines d__law_lines n36 (spD K fV__law_lines 4))
  {a_nought_sums : Addr} {d_nought_sums : FuncData} (g_nought_sums : Gf K mg "nought_sums" s_nought_sums n28 a_nought_sums d_nought_sums)
  (GD_nought_sums : FnOk P w K mg base CX0 3 a_nought_sums d_nought_sums n28 (spD K fD_nought_sums 3))
  {a__law_new : Addr} {d__law_new : FuncData} (g__law_new : Gf K mg "_law_new" s__law_new n37 a__law_new d__law_new)
  (GV__law_new : FnOk P w K mg base CX0 1 a__law_new d__law_new n37 (spD K fV__law_new 3))
  {a__law_numbers : Addr} {d__law_numbers : FuncData} (g__law_numbers : Gf K mg "_law_numbers" s__law_numbers n39 a__law_numbers d__law_numbers)
  (GV__law_numbers : FnOk P w K mg base CX0 1 a__law_numbers d__law_numbers n39 (spD K fV__law_numbers 2))
  {a__law_mixed : Addr} {d__law_mixed : FuncData} (g__law_mixed : Gf K mg "_law_mixed" s__law_mixed n34 a__law_mixed d__law_mixed)
  (GV__law_mixed : FnOk P w K mg base CX0 1 a__law_mixed d__law_mixed n34 (spD K fV__law_mixed 4))
  (GV_nought_sums : FnOk P w K mg base CX0 3 a_nought_sums d_nought_sums n28 (spD K fV_nought_sums 3)) :
  FnOk P w K mg base CX0 4 a_law d_law n40 (sp5 K) := by
 refine g_law.F.ok sc_law (fun vs H Q E h => h.1) fun cdv A outer s H vs Q E hr h => ⟨lawT _, CPs.out (cp_cons (cs_set 1 sc_law.nd (ce_call GV__law_cell (hr.mono (by decide)) g__law_cell.m g__law_cell.F.kp g__law_cell.b (ca_cons (ce_var 0) (ca_cons ce_int ca_nil))))
  (cp_cons (cs_set 2 sc_law.nd (ce_call GV__law_p (hr.mono (by decide)) g__law_p.m g__law_p.F.kp g__law_p.b (ca_cons (ce_var 1) ca_nil)))
  (cp_cons (cs_set 3 sc_law.nd (ce_mod (ce_div (ce_var 1) ce_int) ce_int))
  (cp_cons (cs_set 4 sc_law.nd (ce_mod (ce_div (ce_var 1) ce_int) ce_int))
  (cp_cons (cs_if (ct_eq hr (ce_mod (ce_div (ce_var 1) ce_int) ce_int) ce_int) (css_cons (cs_set 3 sc_law.nd (ce_mod (ce_div (ce_var 1) ce_int) ce_int))
 (css_one (cs_set 4 sc_law.nd (ce_mod (ce_div (ce_var 1) ce_int) ce_int)))) css_nil)
  (cp_cons (cs_set 5 sc_law.nd (ce_call GV__law_lines (hr.mono (by decide)) g__law_lines.m g__law_lines.F.kp g__law_lines.b (ca_cons (ce_var 0) (ca_cons (ce_var 2) (ca_cons (ce_var 3) (ca_cons (ce_var 4) ca_nil))))))
  (cp_cons (cs_set 6 sc_law.nd (CF.ce (cf_list T.n_list (ce_var 5))))
  (cp_cons (cs_set 7 sc_law.nd (ce_call GD_nought_sums (hr.mono (by decide)) g_nought_sums.m g_nought_sums.F.kp g_nought_sums.b (ca_cons (ce_var 2) (ca_cons (ce_var 3) (ca_cons (ce_var 6) ca_nil)))))
  (cp_cons (cs_if (CW.ct (cw_or (ct_ne hr (ce_var 6) (ce_var 5)) (cw_or (ct_not (ct_val (ce_is_list T.n_isinstance T.n_list (ce_var 7)))) (cw_one_or (ct_ne hr (ce_len T.n_len (ce_var 7)) (ce_sub (ce_var 4) (ce_call GV__law_new (hr.mono (by decide)) g__law_new.m g__law_new.F.kp g__law_new.b (ca_cons (ce_var 2) (ca_cons (ce_var 3) (ca_cons (ce_var 5) ca_nil)))))))))) (css_one (cs_ret ce_bl)) css_nil)
  (cp_cons (cs_for PassesOwn.never rfl (ci_seq (ce_var 7)) (cb_name 8 sc_law.nd) (css_cons (cs_if (CW.ct (cw_or (ct_not (ct_val (ce_is_list T.n_isinstance T.n_list (ce_var 8)))) (cw_or (ct_ne hr (ce_len T.n_len (ce_var 8)) (ce_var 4)) (cw_one_or (ct_not (ct_val (ce_call GV__law_numbers (hr.mono (by decide)) g__law_numbers.m g__law_numbers.F.kp g__law_numbers.b (ca_cons (ce_var 8) (ca_cons (ce_var 2) ca_nil))))))))) (css_one (cs_ret ce_bl)) css_nil)
 (css_one (cs_if (ct_ne hr (ce_call GV__law_mixed (hr.mono (by decide)) g__law_mixed.m g__law_mixed.F.kp g__law_mixed.b (ca_cons (ce_var 2) (ca_cons (ce_var 3) (ca_cons (ce_var 5) (ca_cons (ce_var 8) ca_nil))))) (ce_tuple T.n_tuple (CF.ce (cf_comp (N' := n15) rfl (compScope_of (defScope s_law) rfl n16 rfl (by decide +kernel)) rfl (leaves_name rfl) (ci_range1 T.n_range (ce_var 3)) (fun _ _ _ _ _ => (cb_name 0 (show n15.Nodup by decide +kernel))) (fun _ _ _ _ _ => pifs_true) (fun _ _ _ _ _ => ce_int))))) (css_one (cs_ret ce_bl)) css_nil))))
  (cp_cons (cs_set 9 sc_law.nd (ce_len T.n_len (ce_var 7)))
  (cp_cons (cs_if (ct_ne hr (ce_call GV__law_new (hr.mono (by decide)) g__law_new.m g__law_new.F.kp g__law_new.b (ca_cons (ce_var 2) (ca_cons (ce_var 4) (ca_cons (ce_var 7) ca_nil)))) (ce_var 9)) (css_one (cs_ret ce_bl)) css_nil)
  (cp_any (cp_poke hK PassesOwn.never rfl (ce_var 7) (cb_name 8 sc_law.nd) (ce_var 8) ce_int)
  (cp_cons (cs_append (ce_var 7) (CF.ce (cf_lst ca_nil)))
  (cp_one (cs_ret (ce_eq hr (ce_len T.n_len (ce_call GV_nought_sums (hr.mono (by decide)) g_nought_sums.m g_nought_sums.F.kp g_nought_sums.b (ca_cons (ce_var 2) (ca_cons (ce_var 3) (ca_cons (ce_var 5) ca_nil))))) (ce_var 9)))))))))))))))))), ?_⟩
 obtain ⟨_, a, ns, rfl, hl, hS, hO, hQ⟩ := h
 have hfin := fun H' => hQ H'
 obtain ⟨c, p, w_, m, sz, ls, found, x6, x8, hA, hB, hls, hf, hfl, hC⟩ := hlaw ns hl
 exact law_run rfl hK hS hO hA hB hls hf hfl hC hfin
theorem us1 {us : List Value} (h : us.length = 1) : ∃ a0, us = [a0] := by
 obtain ⟨a0, us, rfl⟩ := us_cons h; rw [List.length_cons] at h; replace h := Nat.succ.inj h; cases List.eq_nil_of_length_eq_zero h; exact ⟨_, rfl⟩
theorem us2 {us : List Value} (h : us.length = 2) : ∃ a0 a1, us = [a0, a1] := by
 obtain ⟨a0, us, rfl⟩ := us_cons h; rw [List.length_cons] at h; replace h := Nat.succ.inj h; obtain ⟨a1, us, rfl⟩ := us_cons h; rw [List.length_cons] at h; replace h := Nat.succ.inj h; cases List.eq_nil_of_length_eq_zero h; exact ⟨_, _, rfl⟩
theorem us3 {us : List Value} (h : us.length = 3) : ∃ a0 a1 a2, us = [a0, a1, a2] := by
 obtain ⟨a0, us, rfl⟩ := us_cons h; rw [List.length_cons] at h; replace h := Nat.succ.inj h; obtain ⟨a1, us, rfl⟩ := us_cons h; rw [List.length_cons] at h; replace h := Nat.succ.inj h; obtain ⟨a2, us, rfl⟩ := us_cons h; rw [List.length_cons] at h; replace h := Nat.succ.inj h; cases List.eq_nil_of_length_eq_zero h; exact ⟨_, _, _, rfl⟩
theorem us4 {us : List Value} (h : us.length = 4) : ∃ a0 a1 a2 a3, us = [a0, a1, a2, a3] := by
 obtain ⟨a0, us, rfl⟩ := us_cons h; rw [List.length_cons] at h; replace h := Nat.succ.inj h; obtain ⟨a1, us, rfl⟩ := us_cons h; rw [List.length_cons] at h; replace h := Nat.succ.inj h; obtain ⟨a2, us, rfl⟩ := us_cons h; rw [List.length_cons] at h; replace h := Nat.succ.inj h; obtain ⟨a3, us, rfl⟩ := us_cons h; rw [List.length_cons] at h; replace h := Nat.succ.inj h; cases List.eq_nil_of_length_eq_zero h; exact ⟨_, _, _, _, rfl⟩
theorem all_mk {l : PySem.W.OpenLaw} {w : World} {K : PySem.W.Frag} {h : Heap} {mg : Str → Option Value} {fa : Addr} (hlaw : ∀ ns : List Int, ns.length ≤ 63 → Hlaw ns) (hK : NoL K) (X : K.In h) (G : h.Ns mainGlobals mg) (hfa : mg "law" = some (.ref fa))
  {f0 f1 f2 f3 f4 f5 f6 f7 f8 f9 f10 f11 f12 f13 f14 f15 f16 : Addr} {od0 an0 od1 an1 od2 an2 od3 an3 od4 an4 od5 an5 od6 an6 od7 an7 od8 an8 od9 an9 od10 an10 od11 an11 od12 an12 od13 an13 od14 an14 od15 an15 od16 an16 : Option Addr} {sl0 sl1 sl2 sl3 sl4 sl5 sl6 sl7 sl8 sl9 sl10 sl11 sl12 sl13 sl14 sl15 sl16 : Array (Option Value)} {oc0 kV0 dc0 pm0 cd0 ct0 oc1 kV1 dc1 pm1 cd1 ct1 oc2 kV2 dc2 pm2 cd2 ct2 oc3 kV3 dc3 pm3 cd3 ct3 oc4 kV4 dc4 pm4 cd4 ct4 oc5 kV5 dc5 pm5 cd5 ct5 oc6 kV6 dc6 pm6 cd6 ct6 oc7 kV7 dc7 pm7 cd7 ct7 oc8 kV8 dc8 pm8 cd8 ct8 oc9 kV9 dc9 pm9 cd9 ct9 oc10 kV10 dc10 pm10 cd10 ct10 oc11 kV11 dc11 pm11 cd11 ct11 oc12 kV12 dc12 pm12 cd12 ct12 oc13 kV13 dc13 pm13 cd13 ct13 oc14 kV14 dc14 pm14 cd14 ct14 oc15 kV15 dc15 pm15 cd15 ct15 oc16 kV16 dc16 pm16 cd16 ct16 : Value}
  (a0 : PySem.W.nsIn K mainGlobals "over" = some (some (.ref f0))) (l0 : K.lookup f0 = some ⟨oc0, od0, .func (PySem.W.fnOf "over" "over" (defArgs s_over) (defBody s_over) (defScope s_over) .none kV0 dc0 pm0 an0 cd0 ct0), sl0⟩) (c0 : PySem.W.codeIn K cd0 "over" = true) (k0 : PySem.W.keepIn K (.ref f0) = true)
  (a1 : PySem.W.nsIn K mainGlobals "times" = some (some (.ref f1))) (l1 : K.lookup f1 = some ⟨oc1, od1, .func (PySem.W.fnOf "times" "times" (defArgs s_times) (defBody s_times) (defScope s_times) .none kV1 dc1 pm1 an1 cd1 ct1), sl1⟩) (c1 : PySem.W.codeIn K cd1 "times" = true) (k1 : PySem.W.keepIn K (.ref f1) = true)
  (a2 : PySem.W.nsIn K mainGlobals "freed" = some (some (.ref f2))) (l2 : K.lookup f2 = some ⟨oc2, od2, .func (PySem.W.fnOf "freed" "freed" (defArgs s_freed) (defBody s_freed) (defScope s_freed) .none kV2 dc2 pm2 an2 cd2 ct2), sl2⟩) (c2 : PySem.W.codeIn K cd2 "freed" = true) (k2 : PySem.W.keepIn K (.ref f2) = true)
  (a3 : PySem.W.nsIn K mainGlobals "first_place" = some (some (.ref f3))) (l3 : K.lookup f3 = some ⟨oc3, od3, .func (PySem.W.fnOf "first_place" "first_place" (defArgs s_first_place) (defBody s_first_place) (defScope s_first_place) .none kV3 dc3 pm3 an3 cd3 ct3), sl3⟩) (c3 : PySem.W.codeIn K cd3 "first_place" = true) (k3 : PySem.W.keepIn K (.ref f3) = true)
  (a4 : PySem.W.nsIn K mainGlobals "eased" = some (some (.ref f4))) (l4 : K.lookup f4 = some ⟨oc4, od4, .func (PySem.W.fnOf "eased" "eased" (defArgs s_eased) (defBody s_eased) (defScope s_eased) .none kV4 dc4 pm4 an4 cd4 ct4), sl4⟩) (c4 : PySem.W.codeIn K cd4 "eased" = true) (k4 : PySem.W.keepIn K (.ref f4) = true)
  (a5 : PySem.W.nsIn K mainGlobals "numbers_at" = some (some (.ref f5))) (l5 : K.lookup f5 = some ⟨oc5, od5, .func (PySem.W.fnOf "numbers_at" "numbers_at" (defArgs s_numbers_at) (defBody s_numbers_at) (defScope s_numbers_at) .none kV5 dc5 pm5 an5 cd5 ct5), sl5⟩) (c5 : PySem.W.codeIn K cd5 "numbers_at" = true) (k5 : PySem.W.keepIn K (.ref f5) = true)
  (a6 : PySem.W.nsIn K mainGlobals "unit" = some (some (.ref f6))) (l6 : K.lookup f6 = some ⟨oc6, od6, .func (PySem.W.fnOf "unit" "unit" (defArgs s_unit) (defBody s_unit) (defScope s_unit) .none kV6 dc6 pm6 an6 cd6 ct6), sl6⟩) (c6 : PySem.W.codeIn K cd6 "unit" = true) (k6 : PySem.W.keepIn K (.ref f6) = true)
  (a7 : PySem.W.nsIn K mainGlobals "nought_sum" = some (some (.ref f7))) (l7 : K.lookup f7 = some ⟨oc7, od7, .func (PySem.W.fnOf "nought_sum" "nought_sum" (defArgs s_nought_sum) (defBody s_nought_sum) (defScope s_nought_sum) .none kV7 dc7 pm7 an7 cd7 ct7), sl7⟩) (c7 : PySem.W.codeIn K cd7 "nought_sum" = true) (k7 : PySem.W.keepIn K (.ref f7) = true)
  (a8 : PySem.W.nsIn K mainGlobals "nought_sums" = some (some (.ref f8))) (l8 : K.lookup f8 = some ⟨oc8, od8, .func (PySem.W.fnOf "nought_sums" "nought_sums" (defArgs s_nought_sums) (defBody s_nought_sums) (defScope s_nought_sums) .none kV8 dc8 pm8 an8 cd8 ct8), sl8⟩) (c8 : PySem.W.codeIn K cd8 "nought_sums" = true) (k8 : PySem.W.keepIn K (.ref f8) = true)
  (a9 : PySem.W.nsIn K mainGlobals "_law_cell" = some (some (.ref f9))) (l9 : K.lookup f9 = some ⟨oc9, od9, .func (PySem.W.fnOf "_law_cell" "_law_cell" (defArgs s__law_cell) (defBody s__law_cell) (defScope s__law_cell) .none kV9 dc9 pm9 an9 cd9 ct9), sl9⟩) (c9 : PySem.W.codeIn K cd9 "_law_cell" = true) (k9 : PySem.W.keepIn K (.ref f9) = true)
  (a10 : PySem.W.nsIn K mainGlobals "_law_row" = some (some (.ref f10))) (l10 : K.lookup f10 = some ⟨oc10, od10, .func (PySem.W.fnOf "_law_row" "_law_row" (defArgs s__law_row) (defBody s__law_row) (defScope s__law_row) .none kV10 dc10 pm10 an10 cd10 ct10), sl10⟩) (c10 : PySem.W.codeIn K cd10 "_law_row" = true) (k10 : PySem.W.keepIn K (.ref f10) = true)
  (a11 : PySem.W.nsIn K mainGlobals "_law_p" = some (some (.ref f11))) (l11 : K.lookup f11 = some ⟨oc11, od11, .func (PySem.W.fnOf "_law_p" "_law_p" (defArgs s__law_p) (defBody s__law_p) (defScope s__law_p) .none kV11 dc11 pm11 an11 cd11 ct11), sl11⟩) (c11 : PySem.W.codeIn K cd11 "_law_p" = true) (k11 : PySem.W.keepIn K (.ref f11) = true)
  (a12 : PySem.W.nsIn K mainGlobals "_law_mixed" = some (some (.ref f12))) (l12 : K.lookup f12 = some ⟨oc12, od12, .func (PySem.W.fnOf "_law_mixed" "_law_mixed" (defArgs s__law_mixed) (defBody s__law_mixed) (defScope s__law_mixed) .none kV12 dc12 pm12 an12 cd12 ct12), sl12⟩) (c12 : PySem.W.codeIn K cd12 "_law_mixed" = true) (k12 : PySem.W.keepIn K (.ref f12) = true)
  (a13 : PySem.W.nsIn K mainGlobals "_law_lines" = some (some (.ref f13))) (l13 : K.lookup f13 = some ⟨oc13, od13, .func (PySem.W.fnOf "_law_lines" "_law_lines" (defArgs s__law_lines) (defBody s__law_lines) (defScope s__law_lines) .none kV13 dc13 pm13 an13 cd13 ct13), sl13⟩) (c13 : PySem.W.codeIn K cd13 "_law_lines" = true) (k13 : PySem.W.keepIn K (.ref f13) = true)
  (a14 : PySem.W.nsIn K mainGlobals "_law_new" = some (some (.ref f14))) (l14 : K.lookup f14 = some ⟨oc14, od14, .func (PySem.W.fnOf "_law_new" "_law_new" (defArgs s__law_new) (defBody s__law_new) (defScope s__law_new) .none kV14 dc14 pm14 an14 cd14 ct14), sl14⟩) (c14 : PySem.W.codeIn K cd14 "_law_new" = true) (k14 : PySem.W.keepIn K (.ref f14) = true)
  (a15 : PySem.W.nsIn K mainGlobals "_law_numbers" = some (some (.ref f15))) (l15 : K.lookup f15 = some ⟨oc15, od15, .func (PySem.W.fnOf "_law_numbers" "_law_numbers" (defArgs s__law_numbers) (defBody s__law_numbers) (defScope s__law_numbers) .none kV15 dc15 pm15 an15 cd15 ct15), sl15⟩) (c15 : PySem.W.codeIn K cd15 "_law_numbers" = true) (k15 : PySem.W.keepIn K (.ref f15) = true)
  (a16 : PySem.W.nsIn K mainGlobals "law" = some (some (.ref f16))) (l16 : K.lookup f16 = some ⟨oc16, od16, .func (PySem.W.fnOf "law" "law" (defArgs s_law) (defBody s_law) (defScope s_law) .none kV16 dc16 pm16 an16 cd16 ct16), sl16⟩) (c16 : PySem.W.codeIn K cd16 "law" = true) (k16 : PySem.W.keepIn K (.ref f16) = true)
  (z0 : PySem.W.nsIn K mainGlobals "bool" = some none)
  (z1 : PySem.W.nsIn K mainGlobals "int" = some none)
  (z2 : PySem.W.nsIn K mainGlobals "isinstance" = some none)
  (z3 : PySem.W.nsIn K mainGlobals "len" = some none)
  (z4 : PySem.W.nsIn K mainGlobals "list" = some none)
  (z5 : PySem.W.nsIn K mainGlobals "range" = some none)
  (z6 : PySem.W.nsIn K mainGlobals "sum" = some none)
  (z7 : PySem.W.nsIn K mainGlobals "tuple" = some none)
  (z8 : PySem.W.nsIn K mainGlobals "zip" = some none)
  : ∃ fd : FuncData, (∀ (s : Shared) (v : Value), BindsTo s fd ⟨[v], []⟩ [("_law_script", v)]) ∧ ∀ base : Heap, K.In base → base.Ns mainGlobals mg → FnOk l.prog w K mg base CX0 4 fa fd ["_law_script"] (sp5 K) := by
 have e := hfa.symm.trans (PySem.W.mg_of X G a16)
 cases e
 have T : Tx K mg := ⟨PySem.W.mg_none_of X G z0, PySem.W.mg_none_of X G z1, PySem.W.mg_none_of X G z2, PySem.W.mg_none_of X G z3, PySem.W.mg_none_of X G z4, PySem.W.mg_none_of X G z5, PySem.W.mg_none_of X G z6, PySem.W.mg_none_of X G z7, PySem.W.mg_none_of X G z8⟩
 have F0 := fun_mk (st := s_over) l0 c0 k0
 have g0 : Gf K mg "over" s_over ["p", "one", "other"] _ _ := ⟨F0, F0.binds (ps := ["p", "one", "other"]) fun _ _ _ _ _ _ us hl => by obtain ⟨_, _, _, rfl⟩ := us3 hl; rfl, PySem.W.mg_of X G a0⟩
 have F1 := fun_mk (st := s_times) l1 c1 k1
 have g1 : Gf K mg "times" s_times ["p", "number", "row"] _ _ := ⟨F1, F1.binds (ps := ["p", "number", "row"]) fun _ _ _ _ _ _ us hl => by obtain ⟨_, _, _, rfl⟩ := us3 hl; rfl, PySem.W.mg_of X G a1⟩
 have F2 := fun_mk (st := s_freed) l2 c2 k2
 have g2 : Gf K mg "freed" s_freed ["p", "row", "lead", "place"] _ _ := ⟨F2, F2.binds (ps := ["p", "row", "lead", "place"]) fun _ _ _ _ _ _ us hl => by obtain ⟨_, _, _, _, rfl⟩ := us4 hl; rfl, PySem.W.mg_of X G a2⟩
 have F3 := fun_mk (st := s_first_place) l3 c3 k3
 have g3 : Gf K mg "first_place" s_first_place ["row", "many"] _ _ := ⟨F3, F3.binds (ps := ["row", "many"]) fun _ _ _ _ _ _ us hl => by obtain ⟨_, _, rfl⟩ := us2 hl; rfl, PySem.W.mg_of X G a3⟩
 have F4 := fun_mk (st := s_eased) l4 c4 k4
 have g4 : Gf K mg "eased" s_eased ["p", "rows", "many"] _ _ := ⟨F4, F4.binds (ps := ["p", "rows", "many"]) fun _ _ _ _ _ _ us hl => by obtain ⟨_, _, _, rfl⟩ := us3 hl; rfl, PySem.W.mg_of X G a4⟩
 have F5 := fun_mk (st := s_numbers_at) l5 c5 k5
 have g5 : Gf K mg "numbers_at" s_numbers_at ["p", "lines", "place"] _ _ := ⟨F5, F5.binds (ps := ["p", "lines", "place"]) fun _ _ _ _ _ _ us hl => by obtain ⟨_, _, _, rfl⟩ := us3 hl; rfl, PySem.W.mg_of X G a5⟩
 have F6 := fun_mk (st := s_unit) l6 c6 k6
 have g6 : Gf K mg "unit" s_unit ["width", "place"] _ _ := ⟨F6, F6.binds (ps := ["width", "place"]) fun _ _ _ _ _ _ us hl => by obtain ⟨_, _, rfl⟩ := us2 hl; rfl, PySem.W.mg_of X G a6⟩
 have F7 := fun_mk (st := s_nought_sum) l7 c7 k7
 have g7 : Gf K mg "nought_sum" s_nought_sum ["p", "leads", "many", "free"] _ _ := ⟨F7, F7.binds (ps := ["p", "leads", "many", "free"]) fun _ _ _ _ _ _ us hl => by obtain ⟨_, _, _, _, rfl⟩ := us4 hl; rfl, PySem.W.mg_of X G a7⟩
 have F8 := fun_mk (st := s_nought_sums) l8 c8 k8
 have g8 : Gf K mg "nought_sums" s_nought_sums ["p", "width", "lines"] _ _ := ⟨F8, F8.binds (ps := ["p", "width", "lines"]) fun _ _ _ _ _ _ us hl => by obtain ⟨_, _, _, rfl⟩ := us3 hl; rfl, PySem.W.mg_of X G a8⟩
 have F9 := fun_mk (st := s__law_cell) l9 c9 k9
 have g9 : Gf K mg "_law_cell" s__law_cell ["_law_script", "_law_k"] _ _ := ⟨F9, F9.binds (ps := ["_law_script", "_law_k"]) fun _ _ _ _ _ _ us hl => by obtain ⟨_, _, rfl⟩ := us2 hl; rfl, PySem.W.mg_of X G a9⟩
 have F10 := fun_mk (st := s__law_row) l10 c10 k10
 have g10 : Gf K mg "_law_row" s__law_row ["_law_cell_here", "_law_most", "_law_many"] _ _ := ⟨F10, F10.binds (ps := ["_law_cell_here", "_law_most", "_law_many"]) fun _ _ _ _ _ _ us hl => by obtain ⟨_, _, _, rfl⟩ := us3 hl; rfl, PySem.W.mg_of X G a10⟩
 have F11 := fun_mk (st := s__law_p) l11 c11 k11
 have g11 : Gf K mg "_law_p" s__law_p ["_law_cell_here"] _ _ := ⟨F11, F11.binds (ps := ["_law_cell_here"]) fun _ _ _ _ _ _ us hl => by obtain ⟨_, rfl⟩ := us1 hl; rfl, PySem.W.mg_of X G a11⟩
 have F12 := fun_mk (st := s__law_mixed) l12 c12 k12
 have g12 : Gf K mg "_law_mixed" s__law_mixed ["_law_p_here", "_law_width", "_law_lines_here", "_law_mix"] _ _ := ⟨F12, F12.binds (ps := ["_law_p_here", "_law_width", "_law_lines_here", "_law_mix"]) fun _ _ _ _ _ _ us hl => by obtain ⟨_, _, _, _, rfl⟩ := us4 hl; rfl, PySem.W.mg_of X G a12⟩
 have F13 := fun_mk (st := s__law_lines) l13 c13 k13
 have g13 : Gf K mg "_law_lines" s__law_lines ["_law_script", "_law_p_here", "_law_width", "_law_many"] _ _ := ⟨F13, F13.binds (ps := ["_law_script", "_law_p_here", "_law_width", "_law_many"]) fun _ _ _ _ _ _ us hl => by obtain ⟨_, _, _, _, rfl⟩ := us4 hl; rfl, PySem.W.mg_of X G a13⟩
 have F14 := fun_mk (st := s__law_new) l14 c14 k14
 have g14 : Gf K mg "_law_new" s__law_new ["_law_p_here", "_law_width", "_law_lines_here"] _ _ := ⟨F14, F14.binds (ps := ["_law_p_here", "_law_width", "_law_lines_here"]) fun _ _ _ _ _ _ us hl => by obtain ⟨_, _, _, rfl⟩ := us3 hl; rfl, PySem.W.mg_of X G a14⟩
 have F15 := fun_mk (st := s__law_numbers) l15 c15 k15
 have g15 : Gf K mg "_law_numbers" s__law_numbers ["_law_some", "_law_p_here"] _ _ := ⟨F15, F15.binds (ps := ["_law_some", "_law_p_here"]) fun _ _ _ _ _ _ us hl => by obtain ⟨_, _, rfl⟩ := us2 hl; rfl, PySem.W.mg_of X G a15⟩
 have F16 := fun_mk (st := s_law) l16 c16 k16
 have g16 : Gf K mg "law" s_law ["_law_script"] _ _ := ⟨F16, F16.binds (ps := ["_law_script"]) fun _ _ _ _ _ _ us hl => by obtain ⟨_, rfl⟩ := us1 hl; rfl, PySem.W.mg_of X G a16⟩
 refine ⟨PySem.W.fnOf "law" "law" (defArgs s_law) (defBody s_law) (defScope s_law) .none kV16 dc16 pm16 an16 cd16 ct16, fun s v => .of_eq rfl, fun base _ _ => ?_⟩
 have oV0 := okV_over (P := l.prog) (w := w) (base := base) T g0
 have oV1 := okV_times (P := l.prog) (w := w) (base := base) T g1
 have oV2 := okV_freed (P := l.prog) (w := w) (base := base) T g2
 have oV3 := okV_first_place (P := l.prog) (w := w) (base := base) T g3
 have oV4 := okV_eased (P := l.prog) (w := w) (base := base) T g4 g2 oV2 g3 oV3 g0 oV0 g1 oV1
 have oV5 := okV_numbers_at (P := l.prog) (w := w) (base := base) T g5
 have oD6 := okD_unit (P := l.prog) (w := w) (base := base) T g6
 have oV7 := okV_nought_sum (P := l.prog) (w := w) (base := base) T g7 g6 oD6
 have oD8 := okD_nought_sums (P := l.prog) (w := w) (base := base) T g8 g5 oV5 g4 oV4 g7 oV7
 have oV8 := okV_nought_sums (P := l.prog) (w := w) (base := base) T g8 g5 oV5 g4 oV4 g7 oV7
 have oV9 := okV__law_cell (P := l.prog) (w := w) (base := base) T g9
 have oV10 := okV__law_row (P := l.prog) (w := w) (base := base) T g10
 have oV11 := okV__law_p (P := l.prog) (w := w) (base := base) T g11
 have oV12 := okV__law_mixed (P := l.prog) (w := w) (base := base) T g12
 have oV13 := okV__law_lines (P := l.prog) (w := w) (base := base) T g13 g9 oV9 g10 oV10 g12 oV12
 have oV14 := okV__law_new (P := l.prog) (w := w) (base := base) T g14
 have oV15 := okV__law_numbers (P := l.prog) (w := w) (base := base) T g15
 have oV16 := ok_law (P := l.prog) (w := w) (base := base) hK hlaw T g16 g9 oV9 g11 oV11 g13 oV13 g8 oD8 g14 oV14 g15 oV15 g12 oV12 oV8
 exact oV16
end
theorem walk {l : PySem.W.OpenLaw} {q : Program} {loose : List Str} {XP : (Str → Option Value) → Heap → Prop} {YP : World → Heap → Prop} {d : DefRec} {K : Params → PySem.W.Frag} (hn : l.most = some 63) (hdf : d.params.defaults = [])
  (hY : ∀ (w : World) (h : Heap), YP w h → (K w.params).In h)
  (F : ∀ (w : World) (mg : Str → Option Value) (fa : Addr) (h : Heap), (K w.params).In h → h.Ns mainGlobals mg → mg d.name = some (.ref fa) →
   ∃ fd : FuncData, (∀ (s : Shared) (u : Value), BindsTo s fd ⟨[u], []⟩ [("_law_script", u)]) ∧ ∀ base : Heap, (K w.params).In base → base.Ns mainGlobals mg → FnOk l.prog w (K w.params) mg base CX0 4 fa fd ["_law_script"] (sp5 (K w.params))) :
  PySem.W.WalkO q loose XP YP l.row.toRowW d [] (fun f vs => PySem.call f vs) :=
 L2.walk_of (n := 63) (k := 4) (x := "_law_script") (CX := fun _ => CX0) (sp := fun w => sp5 (K w.params)) hn (by decide) hdf ⟨rfl, by decide, by decide⟩ hY F (fun w H a ns hl hO hS => ⟨rfl, a, ns, rfl, hl, hS, hO, fun _ => rfl⟩) fun _ _ _ _ _ z => z
end Fw.k05
end
namespace Fw
open PySem Fw Fw.H
theorem r_sSeq_is (a b : DS) (e : Slots) (μ : Store) : sSeq a b e μ = (a e μ).seq b := rfl
theorem r_sSet_is (i : Nat) (d : D) (e : Slots) (μ : Store) : sSet i d e μ = (d e μ).toS e fun x μ1 => .nx (e.set i (some x)) μ1 := rfl
theorem r_sRet_is (d : D) (e : Slots) (μ : Store) : sRet d e μ = (d e μ).toS e fun x μ1 => .rt x μ1 := rfl
theorem r_sIf_is (c : D) (a b : DS) (e : Slots) (μ : Store) : sIf c a b e μ = (c e μ).toS e fun x μ1 => (R.lift (asB x) μ1).toS e fun k μ1 => if k = true then a e μ1 else b e μ1 := rfl
theorem r_sNil_is (e : Slots) (μ : Store) : sNil e μ = .nx e μ := rfl
theorem r_dUn_is (f : T → Option T) (a : D) (e : Slots) (μ : Store) : dUn f a e μ = (a e μ).bind fun x μ1 => R.lift (ap1 f (rd μ1 x)) μ1 := rfl
theorem r_dBin_is (f : T → T → Option T) (a b : D) (e : Slots) (μ : Store) : dBin f a b e μ = (a e μ).bind fun x μ1 => (b e μ1).bind fun y μ2 => R.lift (ap2 f (rd μ2 x) (rd μ2 y)) μ2 := rfl
theorem r_dVar_is (i : Nat) (e : Slots) (μ : Store) : dVar i e μ = R.lift (slot e i) μ := rfl
theorem r_dC_is (t : T) (e : Slots) (μ : Store) : dC t e μ = .ok (.val t) μ := rfl
theorem r_dCall_is (f : FN) (ds : List D) (e : Slots) (μ : Store) : dCall f ds e μ = (dArgs ds e μ).bind fun xs μ1 => f xs μ1 := rfl
theorem r_dArgs_cons (d : D) (ds : List D) (e : Slots) (μ : Store) : dArgs (d :: ds) e μ = (d e μ).bind fun x μ1 => (dArgs ds e μ1).bind fun xs μ2 => .ok (x :: xs) μ2 := rfl
theorem r_dArgs_nil (e : Slots) (μ : Store) : dArgs [] e μ = .ok [] μ := rfl
theorem r_dTup_is (ds : List D) (e : Slots) (μ : Store) : dTup ds e μ = (dArgs ds e μ).bind fun xs μ1 => (frzs xs μ1).bind fun ts μ2 => .ok (.val (.tup ts)) μ2 := rfl
theorem r_dLst_is (ds : List D) (e : Slots) (μ : Store) : dLst ds e μ = (dArgs ds e μ).bind fun xs μ1 => (frzs xs μ1).bind fun ts μ2 => .ok (.val (.lst ts)) μ2 := rfl
theorem r_dIdx_is (a b : D) (e : Slots) (μ : Store) : dIdx a b e μ = (a e μ).bind fun x μ1 => (b e μ1).bind fun y μ2 => R.lift ((rd μ2 y).bind fun u => idxS μ2 x u) μ2 := rfl
theorem r_dLen_is (a : D) (e : Slots) (μ : Store) : dLen a e μ = (a e μ).bind fun x μ1 => R.lift ((lenS μ1 x).map SV.val) μ1 := rfl
theorem r_cal_is (f : FN) (xs : List SV) (μ : Store) : cal f xs μ = (f xs μ).calm := rfl
theorem r_slot_succ (x : Option SV) (e : Slots) (i : Nat) : slot (x :: e) (i + 1) = slot e i := rfl
theorem r_slot_zero (x : SV) (e : Slots) : slot (some x :: e) 0 = some x := rfl
theorem r_R_toS_ok {α : Type} (a : α) (e : Slots) (μ : Store) (f : α → Store → RS) : (R.ok a μ).toS e f = f a μ := rfl
theorem r_rd_val (μ : Store) (t : T) : rd μ (.val t) = some t := rfl
theorem r_ap1_some (f : T → Option T) (t : T) : ap1 f (some t) = (f t).map SV.val := rfl
theorem r_ap2_some (f : T → T → Option T) (t u : T) : ap2 f (some t) (some u) = (f t u).map SV.val := rfl
theorem r_asB_bl (b : Bool) : asB (.val (.bl b)) = some b := rfl
theorem r_frz_val (μ : Store) (t : T) : frz (.val t) μ = .ok t μ := rfl
theorem r_frzs_nil (μ : Store) : frzs [] μ = .ok [] μ := rfl
theorem r_frzs_cons (x : SV) (xs : List SV) (μ : Store) : frzs (x :: xs) μ = (frz x μ).bind fun t μ1 => (frzs xs μ1).bind fun ts μ2 => .ok (t :: ts) μ2 := rfl
theorem r_RS_seq_nx (e : Slots) (μ : Store) (f : Slots → Store → RS) : (RS.nx e μ).seq f = f e μ := rfl
theorem r_R_lift_some {α : Type} (a : α) (μ : Store) : R.lift (some a) μ = .ok a μ := rfl
theorem r_R_bind_ok {α β : Type} (a : α) (μ : Store) (f : α → Store → R β) : (R.ok a μ).bind f = f a μ := rfl
theorem r_R_calm_ok {α : Type} (a : α) (μ : Store) : (R.ok a μ).calm = .ok a μ := rfl
theorem r_dAnd_is (a b : D) (e : Slots) (μ : Store) : dAnd a b e μ = (a e μ).bind fun x μ1 => (R.lift (asB x) μ1).bind fun k μ1 => if k = true then b e μ1 else .ok (.val (.bl false)) μ1 := rfl
theorem r_dOr_is (a b : D) (e : Slots) (μ : Store) : dOr a b e μ = (a e μ).bind fun x μ1 => (R.lift (asB x) μ1).bind fun k μ1 => if k = true then .ok (.val (.bl true)) μ1 else b e μ1 := rfl
theorem r_dNot_is (a : D) (e : Slots) (μ : Store) : dNot a e μ = (a e μ).bind fun x μ1 => (R.lift (asB x) μ1).bind fun k μ1 => .ok (.val (.bl (!k))) μ1 := rfl
theorem r_iSeq_is (d : D) (e : Slots) (μ : Store) : iSeq d e μ = (d e μ).bind fun x μ1 => (R.lift ((rd μ1 x).bind seqItems) μ1).bind fun ts μ1 => .ok ⟨ts, fun μ' => rd μ' x = rd μ1 x⟩ μ1 := rfl
theorem r_sFor_is (it : DI) (b : BD) (body : DS) (e : Slots) (μ : Store) : sFor it b body e μ = (it e μ).toS e fun W μ1 => forL W.same b body W.items e μ1 := rfl
theorem r_ini_nil (e : Slots) : ini [] e = [] := rfl
theorem r_ini_none (mp : List (Option Nat)) (e : Slots) : ini (none :: mp) e = none :: ini mp e := rfl
theorem r_ini_some (j : Nat) (mp : List (Option Nat)) (e : Slots) : ini (some j :: mp) e = slot e j :: ini mp e := rfl
theorem r_bName_is (i : Nat) (t : T) (e : Slots) : bName i t e = some (e.set i (some (.val t))) := rfl
end Fw
local macro_rules
 | `(tactic| simp_all! only [$ls,*]) => do
  let mut xs : Array (Lean.TSyntax `Lean.Parser.Tactic.simpLemma) := #[]
  for n in "r_sSeq_is r_sSet_is r_sRet_is r_sIf_is r_sNil_is r_dUn_is r_dBin_is r_dVar_is r_dC_is r_dCall_is r_dArgs_cons r_dArgs_nil r_dTup_is r_dLst_is r_dIdx_is r_dLen_is r_cal_is r_slot_succ r_slot_zero r_R_toS_ok r_rd_val r_ap1_some r_ap2_some r_asB_bl r_frz_val r_frzs_nil r_frzs_cons r_RS_seq_nx r_R_lift_some r_R_bind_ok r_R_calm_ok r_dAnd_is r_dOr_is r_dNot_is r_iSeq_is r_sFor_is r_ini_nil r_ini_none r_ini_some r_bName_is".splitOn " " do xs := xs.push (← `(Lean.Parser.Tactic.simpLemma| $(Lean.mkIdent (`Fw ++ n.toName)):term))
  `(tactic| try dsimp only [$(xs),*, Nat.reduceAdd, Nat.reduceSub, List.set_cons_succ, List.set_cons_zero, $ls,*])
namespace Fw.E
open PySem Fw Fw.H
structure Rw (p : Int) (L : Nat) (r : List Int) : Prop where
 len : r.length = L
 lo : ∀ x ∈ r, 0 ≤ x
 hi : ∀ x ∈ r, x < p
noncomputable def g (r : List Int) (k : Nat) : Int := r.getD k 0
theorem g_zero (x : Int) (r : List Int) : g (x :: r) 0 = x := by simp [g]
theorem g_succ (x : Int) (r : List Int) (k : Nat) : g (x :: r) (k + 1) = g r k := by simp [g]
theorem g_at (r : List Int) (k : Nat) (h : k < r.length) : g r k = r[k] := by simp [g, h]
theorem Rw.g0 {p : Int} {L : Nat} {r : List Int} (h : Rw p L r) (hp : 0 < p) (k : Nat) : 0 ≤ g r k ∧ g r k < p := by
 by_cases hk : k < r.length
 ·rw [g_at r k hk]; exact ⟨h.lo _ (List.getElem_mem hk), h.hi _ (List.getElem_mem hk)⟩
 ·have : g r k = 0 := by simp [g, Nat.le_of_not_lt hk]
  lia
noncomputable def dot : List Int → List Int → Int
 | x :: xs, y :: ys => x * y + dot xs ys
 | _, _ => 0
@[simp] theorem dot_nil (ys : List Int) : dot [] ys = 0 := by cases ys <;> rfl
@[simp] theorem dot_nil2 (ys : List Int) : dot ys [] = 0 := by cases ys <;> rfl
@[simp] theorem dot_cons (x y : Int) (xs ys : List Int) : dot (x :: xs) (y :: ys) = x * y + dot xs ys := rfl
theorem dot_comm (xs ys : List Int) : dot xs ys = dot ys xs := by
 induction xs generalizing ys with
 | nil => cases ys <;> rfl
 | cons x xs ih => cases ys with
  | nil => rfl
  | cons y ys => simp [ih, Int.mul_comm]
theorem dot_append (c1 c2 r1 r2 : List Int) (h : c1.length = r1.length) : dot (c1 ++ c2) (r1 ++ r2) = dot c1 r1 + dot c2 r2 := by
 induction c1 generalizing r1 with
 | nil => cases r1 with
  | nil => simp
  | cons x r1 => simp at h
 | cons x c1 ih => cases r1 with
  | nil => simp at h
  | cons y r1 => simp [ih r1 (by simpa using h)]; lia
theorem md (x p : Int) : ∃ t, x % p = x - p * t := ⟨x / p, Int.emod_def x p⟩
noncomputable def sub (p n : Int) (row lead : List Int) : List Int := (row.zip lead).map fun q => (q.1 - n * q.2) % p
theorem sub_dot (p n : Int) : ∀ (row lead c : List Int), row.length = lead.length → ∃ t, dot c (sub p n row lead) = dot c row - n * dot c lead + p * t
 | [], lead, c, h => by cases lead with
  | nil => exact ⟨0, by simp [sub]⟩
  | cons x l => simp at h
 | e :: row, [], c, h => by simp at h
 | e :: row, o :: lead, [], h => ⟨0, by simp [sub]⟩
 | e :: row, o :: lead, c0 :: c, h => by
  obtain ⟨s, hs⟩ := sub_dot p n row lead c (by simpa using h)
  obtain ⟨t, ht⟩ := md (e - n * o) p
  refine ⟨s - c0 * t, ?_⟩
  have e1 : sub p n (e :: row) (o :: lead) = (e - n * o) % p :: sub p n row lead := rfl
  rw [e1, dot_cons, dot_cons, dot_cons, hs, ht]
  grind
theorem sub_g (p n : Int) : ∀ (row lead : List Int) (k : Nat), row.length = lead.length → g (sub p n row lead) k = (g row k - n * g lead k) % p
 | [], lead, k, h => by cases lead with
  | nil => simp [sub, g]
  | cons x l => simp at h
 | e :: row, [], k, h => by simp at h
 | e :: row, o :: lead, 0, h => by simp [sub, g]
 | e :: row, o :: lead, k + 1, h => by
  have e1 : sub p n (e :: row) (o :: lead) = (e - n * o) % p :: sub p n row lead := rfl
  rw [e1, g_succ, g_succ, g_succ]
  exact sub_g p n row lead k (by simpa using h)
theorem sub_rw {p : Int} {L : Nat} {row lead : List Int} (hp : 0 < p) (n : Int) (h1 : row.length = L) (h2 : lead.length = L) : Rw p L (sub p n row lead) := by
 refine ⟨by simp [sub, h1, h2], fun x hx => ?_, fun x hx => ?_⟩
 ·obtain ⟨q, _, rfl⟩ := List.mem_map.mp hx
  exact Int.emod_nonneg _ (by lia)
 ·obtain ⟨q, _, rfl⟩ := List.mem_map.mp hx
  exact Int.emod_lt_of_pos _ hp
noncomputable def fr (p : Int) (row lead : List Int) (q : Nat) : List Int := if g row q = 0 then row else sub p (g row q) row lead
theorem fr_rw {p : Int} {L : Nat} {row lead : List Int} (hp : 0 < p) (q : Nat) (h1 : Rw p L row) (h2 : Rw p L lead) : Rw p L (fr p row lead q) := by
 unfold fr
 split
 ·exact h1
 ·exact sub_rw hp _ h1.len h2.len
theorem fr_g {p : Int} {L : Nat} {row lead : List Int} (hp : 0 < p) (q k : Nat) (h1 : Rw p L row) (h2 : Rw p L lead) : g (fr p row lead q) k = (g row k - g row q * g lead k) % p := by
 unfold fr
 split
 ·rename_i h
  have := h1.g0 hp k
  rw [h]
  simp
  rw [Int.emod_eq_of_lt this.1 this.2]
 ·exact sub_g p _ row lead k (by rw [h1.len, h2.len])
noncomputable def Z (p : Int) (c r : List Int) : Prop := p ∣ dot c r
theorem fr_Z {p : Int} {L : Nat} {row lead c : List Int} (q : Nat) (h1 : Rw p L row) (h2 : Rw p L lead) (hz : Z p c lead) : Z p c (fr p row lead q) ↔ Z p c row := by
 unfold fr
 split
 ·exact Iff.rfl
 ·obtain ⟨t, ht⟩ := sub_dot p (g row q) row lead c (by rw [h1.len, h2.len])
  obtain ⟨s, hs⟩ := hz
  unfold Z
  rw [ht, hs]
  constructor
  ·rintro ⟨u, hu⟩; exact ⟨u + g row q * s - t, by grind⟩
  ·rintro ⟨u, hu⟩; exact ⟨u - g row q * s + t, by grind⟩
noncomputable def tm (p n : Int) (row : List Int) : List Int := row.map fun e => n * e % p
theorem tm_dot (p n : Int) : ∀ (row c : List Int), ∃ t, dot c (tm p n row) = n * dot c row + p * t
 | [], c => ⟨0, by simp [tm]⟩
 | e :: row, [] => ⟨0, by simp [tm]⟩
 | e :: row, c0 :: c => by
  obtain ⟨s, hs⟩ := tm_dot p n row c
  obtain ⟨t, ht⟩ := md (n * e) p
  refine ⟨s - c0 * t, ?_⟩
  have e1 : tm p n (e :: row) = n * e % p :: tm p n row := rfl
  rw [e1, dot_cons, dot_cons, hs, ht]
  grind
theorem tm_g (p n : Int) (row : List Int) (k : Nat) : g (tm p n row) k = n * g row k % p := by
 induction row generalizing k with
 | nil => simp [tm, g]
 | cons e row ih =>
  have e1 : tm p n (e :: row) = n * e % p :: tm p n row := rfl
  cases k with
  | zero => rw [e1, g_zero, g_zero]
  | succ k => rw [e1, g_succ, g_succ]; exact ih k
theorem tm_rw {p : Int} {L : Nat} {row : List Int} (hp : 0 < p) (n : Int) (h : row.length = L) : Rw p L (tm p n row) := by
 refine ⟨by simp [tm, h], fun x hx => ?_, fun x hx => ?_⟩
 ·obtain ⟨q, _, rfl⟩ := List.mem_map.mp hx
  exact Int.emod_nonneg _ (by lia)
 ·obtain ⟨q, _, rfl⟩ := List.mem_map.mp hx
  exact Int.emod_lt_of_pos _ hp
noncomputable def Inv (p n a : Int) : Prop := n * a % p = 1 % p
theorem tm_Z {p n a : Int} (row c : List Int) (hi : Inv p n a) : Z p c (tm p n row) ↔ Z p c row := by
 obtain ⟨t, ht⟩ := tm_dot p n row c
 unfold Z
 rw [ht]
 constructor
 ·rintro ⟨u, hu⟩
  obtain ⟨m1, e1⟩ := md (n * a) p
  obtain ⟨m2, e2⟩ := md 1 p
  have e3 : n * a - p * m1 = 1 - p * m2 := by rw [← e1, ← e2]; exact hi
  exact ⟨a * (u - t) + (m2 - m1) * dot c row, by grind⟩
 ·rintro ⟨u, hu⟩; exact ⟨n * u + t, by grind⟩
theorem pr_no {p : Int} (h : IsPr p) (r : Int) (h1 : 1 < r) (h2 : r < p) : p % r ≠ 0 := by
 have hb := h.pos
 have key : ∀ p ∈ ([2, 3, 5, 7, 11, 13, 17, 19, 23, 29, 31, 37, 41, 43, 47, 53, 59, 61, 67, 71, 73, 79, 83, 89, 97] : List Int), ∀ r : Nat, r < 97 → 1 < r → (r : Int) < p → p % (r : Int) ≠ 0 := by decide +kernel
 have := key p h r.toNat (by lia) (by lia) (by lia)
 rwa [show (r.toNat : Int) = r by lia] at this
end Fw.E
namespace Fw.E
open PySem Fw Fw.H
noncomputable abbrev Ld := Nat × List Int
noncomputable def frees (p : Int) (ls : List Ld) (row : List Int) : List Int := ls.foldl (fun r q => fr p r q.2 q.1) row
structure Easy (p : Int) (L m : Nat) (ls : List Ld) (ns : List (List Int)) (rows : List (List Int)) : Prop where
 nd : (ls.map (·.1)).Nodup
 key : ∀ q ∈ ls, q.1 < m
 rl : ∀ q ∈ ls, Rw p L q.2
 rn : ∀ r ∈ ns, Rw p L r
 one : ∀ q ∈ ls, g q.2 q.1 = 1
 off : ∀ q ∈ ls, ∀ q' ∈ ls, q'.1 ≠ q.1 → g q.2 q'.1 = 0
 no : ∀ r ∈ ns, ∀ j, j < m → g r j = 0
 eq : ∀ c, (∀ r ∈ rows, Z p c r) ↔ ((∀ q ∈ ls, Z p c q.2) ∧ ∀ r ∈ ns, Z p c r)
theorem Easy.start (p : Int) (L m : Nat) : Easy p L m [] [] [] := ⟨by simp, by simp, by simp, by simp, by simp, by simp, by simp, by simp⟩
theorem frees_ok {p : Int} {L : Nat} {ls : List Ld} (hp : 1 < p) (rl : ∀ q ∈ ls, Rw p L q.2) (one : ∀ q ∈ ls, g q.2 q.1 = 1) (off : ∀ q ∈ ls, ∀ q' ∈ ls, q'.1 ≠ q.1 → g q.2 q'.1 = 0) :
  ∀ (l D : List Ld) (row : List Int), (∀ q ∈ l, q ∈ ls) → (∀ q ∈ D, q ∈ ls) → Rw p L row → (∀ q ∈ D, g row q.1 = 0) →
   Rw p L (frees p l row) ∧ (∀ q ∈ D ++ l, g (frees p l row) q.1 = 0) ∧ ∀ c, (∀ q ∈ l, Z p c q.2) → (Z p c (frees p l row) ↔ Z p c row)
 | [], D, row, _, _, hr, hd => ⟨hr, fun q hq => hd q (by simpa using hq), fun c _ => Iff.rfl⟩
 | a :: l, D, row, hl, hD, hr, hd => by
  have ha : a ∈ ls := hl a (by simp)
  have r1 := fr_rw (by lia) a.1 hr (rl a ha)
  have hg : ∀ k, g (fr p row a.2 a.1) k = (g row k - g row a.1 * g a.2 k) % p := fun k => fr_g (by lia) a.1 k hr (rl a ha)
  have h1 : g (fr p row a.2 a.1) a.1 = 0 := by rw [hg, one a ha]; simp
  obtain ⟨i1, i2, i3⟩ := frees_ok hp rl one off l (D ++ [a]) (fr p row a.2 a.1) (fun q hq => hl q (by simp [hq])) (fun q hq => by
   rcases List.mem_append.mp hq with h | h
   ·exact hD q h
   ·simp at h; subst h; exact ha) r1 (fun q hq => by
   rcases List.mem_append.mp hq with h | h
   ·by_cases e : q.1 = a.1
    ·rw [e]; exact h1
    ·rw [hg, hd q h, off a ha q (hD q h) e]; simp
   ·simp at h; subst h; exact h1)
  refine ⟨i1, fun q hq => i2 q (by simpa using hq), fun c hc => ?_⟩
  exact (i3 c fun q hq => hc q (by simp [hq])).trans (fr_Z a.1 hr (rl a ha) (hc a (by simp)))
theorem Easy.rest {p : Int} {L m : Nat} {ls : List Ld} {ns rows : List (List Int)} {row : List Int} (hp : 1 < p) (E : Easy p L m ls ns rows) (hr : Rw p L row) :
  Rw p L (frees p ls row) ∧ (∀ q ∈ ls, g (frees p ls row) q.1 = 0) ∧ ∀ c, (∀ q ∈ ls, Z p c q.2) → (Z p c (frees p ls row) ↔ Z p c row) := by
 obtain ⟨h1, h2, h3⟩ := frees_ok hp E.rl E.one E.off ls [] row (fun q h => h) (by simp) hr (by simp)
 exact ⟨h1, by simpa using h2, h3⟩
theorem Easy.nought {p : Int} {L m : Nat} {ls : List Ld} {ns rows : List (List Int)} {row : List Int} (hp : 1 < p) (E : Easy p L m ls ns rows) (hr : Rw p L row) (h0 : ∀ j, j < m → g (frees p ls row) j = 0) :
  Easy p L m ls (ns ++ [frees p ls row]) (rows ++ [row]) := by
 obtain ⟨h1, h2, h3⟩ := E.rest hp hr
 refine ⟨E.nd, E.key, E.rl, fun r h => ?_, E.one, E.off, fun r h j hj => ?_, fun c => ?_⟩
 ·rcases List.mem_append.mp h with h | h
  ·exact E.rn r h
  ·simp at h; subst h; exact h1
 ·rcases List.mem_append.mp h with h | h
  ·exact E.no r h j hj
  ·simp at h; subst h; exact h0 j hj
 ·constructor
  ·intro h
   have a := (E.eq c).mp fun r hr => h r (by simp [hr])
   refine ⟨a.1, fun r hr => ?_⟩
   rcases List.mem_append.mp hr with hr | hr
   ·exact a.2 r hr
   ·simp at hr; subst hr; exact (h3 c a.1).mpr (h row (by simp))
  ·rintro ⟨a, b⟩ r hr
   rcases List.mem_append.mp hr with hr | hr
   ·exact (E.eq c).mpr ⟨a, fun r h => b r (by simp [h])⟩ r hr
   ·simp at hr; subst hr; exact (h3 c a).mp (b _ (by simp))
noncomputable def led (p : Int) (ls : List Ld) (fresh : List Int) (f : Nat) : List Ld := ls.map fun q => (q.1, fr p q.2 fresh f)
theorem Easy.lead {p : Int} {L m : Nat} {ls : List Ld} {ns rows : List (List Int)} {row : List Int} {n : Int} {f : Nat} (hp : 1 < p) (E : Easy p L m ls ns rows) (hr : Rw p L row) (hf : f < m) (h0 : g (frees p ls row) f ≠ 0) (hi : Inv p n (g (frees p ls row) f)) :
  Easy p L m (led p ls (tm p n (frees p ls row)) f ++ [(f, tm p n (frees p ls row))]) ns (rows ++ [row]) := by
 obtain ⟨h1, h2, h3⟩ := E.rest hp hr
 have k1 : Rw p L (tm p n (frees p ls row)) := tm_rw (by lia) n h1.len
 have kz : ∀ c, Z p c (tm p n (frees p ls row)) ↔ Z p c (frees p ls row) := fun c => tm_Z _ c hi
 have kf : g (tm p n (frees p ls row)) f = 1 := by
  rw [tm_g]
  have : n * g (frees p ls row) f % p = 1 % p := hi
  rw [this]
  exact Int.emod_eq_of_lt (by lia) hp
 have k0 : ∀ q ∈ ls, g (tm p n (frees p ls row)) q.1 = 0 := fun q hq => by rw [tm_g, h2 q hq]; simp
 generalize tm p n (frees p ls row) = u at k1 kz kf k0
 have fne : ∀ q ∈ ls, q.1 ≠ f := fun q hq e => h0 (by rw [← e]; exact h2 q hq)
 have hg : ∀ q ∈ ls, ∀ k, g (fr p q.2 u f) k = (g q.2 k - g q.2 f * g u k) % p := fun q hq k => fr_g (by lia) f k (E.rl q hq) k1
 have mem : ∀ q, q ∈ led p ls u f ++ [(f, u)] → (∃ q0 ∈ ls, q = (q0.1, fr p q0.2 u f)) ∨ q = (f, u) := fun q hq => by
  rcases List.mem_append.mp hq with h | h
  ·obtain ⟨q0, h1, h2⟩ := List.mem_map.mp h
   exact .inl ⟨q0, h1, h2.symm⟩
  ·simp at h; exact .inr h
 have up : ∀ q0 ∈ ls, (q0.1, fr p q0.2 u f) ∈ led p ls u f ++ [(f, u)] := fun q0 h => List.mem_append_left _ (List.mem_map.mpr ⟨q0, h, rfl⟩)
 refine ⟨?_, fun q hq => ?_, fun q hq => ?_, E.rn, fun q hq => ?_, fun q hq q' hq' hne => ?_, E.no, fun c => ?_⟩
 ·have e1 : (led p ls u f ++ [(f, u)]).map (·.1) = ls.map (·.1) ++ [f] := by simp [led]
  rw [e1, List.nodup_append]
  refine ⟨E.nd, by simp, fun a ha b hb => ?_⟩
  simp at hb
  obtain ⟨q, hq, rfl⟩ := List.mem_map.mp ha
  rw [hb]
  exact fne q hq
 ·rcases mem q hq with ⟨q0, h, rfl⟩ | rfl
  ·exact E.key q0 h
  ·exact hf
 ·rcases mem q hq with ⟨q0, h, rfl⟩ | rfl
  ·exact fr_rw (by lia) f (E.rl q0 h) k1
  ·exact k1
 ·rcases mem q hq with ⟨q0, h, rfl⟩ | rfl
  ·show g (fr p q0.2 u f) q0.1 = 1
   rw [hg q0 h, E.one q0 h, k0 q0 h]
   simp
   exact Int.emod_eq_of_lt (by lia) hp
  ·exact kf
 ·rcases mem q hq with ⟨q0, h, rfl⟩ | rfl
  ·show g (fr p q0.2 u f) q'.1 = 0
   rcases mem q' hq' with ⟨q1, h', rfl⟩ | rfl
   ·have hne : q1.1 ≠ q0.1 := hne
    show g (fr p q0.2 u f) q1.1 = 0
    rw [hg q0 h, E.off q0 h q1 h' hne, k0 q1 h']
    simp
   ·show g (fr p q0.2 u f) f = 0
    rw [hg q0 h, kf]
    simp
  ·rcases mem q' hq' with ⟨q1, h', rfl⟩ | rfl
   ·exact k0 q1 h'
   ·exact absurd rfl hne
 ·have key : ∀ q0 ∈ ls, Z p c u → (Z p c (fr p q0.2 u f) ↔ Z p c q0.2) := fun q0 h hz => fr_Z f (E.rl q0 h) k1 hz
  constructor
  ·intro h
   have a := (E.eq c).mp fun r hr => h r (by simp [hr])
   have hz : Z p c u := (kz c).mpr ((h3 c a.1).mpr (h row (by simp)))
   refine ⟨fun q hq => ?_, a.2⟩
   rcases mem q hq with ⟨q0, h', rfl⟩ | rfl
   ·exact (key q0 h' hz).mpr (a.1 q0 h')
   ·exact hz
  ·rintro ⟨a, b⟩ r hr
   have hz : Z p c u := a (f, u) (by simp)
   have al : ∀ q ∈ ls, Z p c q.2 := fun q hq => (key q hq hz).mp (a _ (up q hq))
   rcases List.mem_append.mp hr with hr | hr
   ·exact (E.eq c).mpr ⟨al, b⟩ r hr
   ·simp at hr; subst hr
    exact (h3 c al).mp ((kz c).mp hz)
end Fw.E
namespace Fw.E
open PySem Fw Fw.H
noncomputable def b_over : DS :=
 (sSeq (sSet 3 (dBin fMod (dVar 2) (dVar 0)))
 (sSeq (sIf (dBin fEq (dVar 3) (dC (.int 0))) sBad sNil)
 (sSeq (sSet 4 (dBin fMod (dVar 1) (dVar 0)))
 (sSeq (sWhile (dBin fNe (dVar 3) (dC (.int 1))) (sSeq (sSet 4 (dBin fMod (dBin fMulA (dUn fNeg (dVar 4)) (dBin fDiv (dVar 0) (dVar 3))) (dVar 0)))
 (sSet 3 (dBin fMod (dVar 0) (dVar 3)))))
 (sRet (dVar 4))))))
noncomputable def b_times : DS :=
 (sRet (dComp (iSeq (dVar 2)) [none, some 0, some 1] (bName 0) (dC (.bl true)) (dBin fMod (dBin fMulA (dVar 2) (dVar 0)) (dVar 1))))
noncomputable def b_freed : DS :=
 (sSeq (sSet 4 (dIdx (dVar 1) (dVar 3)))
 (sSeq (sIf (dBin fEq (dVar 4) (dC (.int 0))) (sRet (dVar 1)) sNil)
 (sRet (dComp (iZip (dVar 1) (dVar 2)) [none, none, some 0, some 4] (bTup [0, 1]) (dC (.bl true)) (dBin fMod (dBin fSub (dVar 0) (dBin fMulA (dVar 3) (dVar 1))) (dVar 2))))))
noncomputable def b_first_place : DS :=
 (sSeq (sFor (iRange1 (dVar 1)) (bName 2) (sIf (dBin fNe (dIdx (dVar 0) (dVar 2)) (dC (.int 0))) (sRet (dVar 2)) sNil))
 (sRet (dC (.non))))
noncomputable def b_eased : DS :=
 (sSeq (sSet 3 (dCell (dC (.dct []))))
 (sSeq (sSet 4 (dCell (dLst [])))
 (sSeq (sFor (iSeq (dVar 1)) (bName 5) (sSeq (sSet 6 (dVar 5))
 (sSeq (sFor (iItems (dVar 3)) (bTup [7, 8]) (sSet 6 (dCall (cal (fnV 5 b_freed)) [(dVar 0), (dVar 6), (dVar 8), (dVar 7)])))
 (sSeq (sSet 9 (dCall (cal (fnV 3 b_first_place)) [(dVar 6), (dVar 2)]))
 (sIf (dUn isNon (dVar 9)) (sAppend (dVar 4) (dVar 6)) (sSeq (sSet 10 (dCall (cal (fnV 3 b_times)) [(dVar 0), (dCall (cal (fnV 5 b_over)) [(dVar 0), (dC (.int 1)), (dIdx (dVar 6) (dVar 9))]), (dVar 6)]))
 (sSeq (sFor (iSeq (dUn fKeys (dVar 3))) (bName 7) (sPutD 3 (dVar 7) (dCall (cal (fnV 5 b_freed)) [(dVar 0), (dBin fGetD (dVar 3) (dVar 7)), (dVar 10), (dVar 9)])))
 (sPutD 3 (dVar 9) (dVar 10)))))))))
 (sRet (dTup [(dVar 3), (dVar 4)])))))
noncomputable abbrev li (r : List Int) : T := .lst (r.map T.int)
theorem over_ok {p : Int} (hP : IsPr p) (one other : Int) (μ : Store) (h0 : other % p ≠ 0) :
  ∃ y, fnV 5 b_over [.val (.int p), .val (.int one), .val (.int other)] μ = .ok (.val (.int y)) μ ∧ 0 ≤ y ∧ y < p ∧ (y * other - one) % p = 0 := by
 have hb := hP.pos
 have hp0 : 0 < p := Int.lt_of_lt_of_le (by decide) hb.1
 unfold b_over
 have hp : 0 < p := by lia
 have z : (other % p == 0) = false := by simpa using h0
 (try simp_all! only []); simp [hp, z]
 have r0 := Int.emod_nonneg other (Int.ne_of_gt hp0)
 have r1 := Int.emod_lt_of_pos other hp
 refine sWhile_inv (P := fun r => ∃ y, RS.endV μ.length (r.seq (sRet (dVar 4))) = R.ok (SV.val (T.int y)) μ ∧ 0 ≤ y ∧ y < p ∧ (y * other - one) % p = 0) ?_
  (fun n e μ' => μ' = μ ∧ ∃ rest told : Int, e = [some (.val (.int p)), some (.val (.int one)), some (.val (.int other)), some (.val (.int rest)), some (.val (.int told))] ∧ rest.toNat = n ∧ 1 ≤ rest ∧ rest < p ∧ 0 ≤ told ∧ told < p ∧ ∃ t, told * other = one * rest + p * t) ?_ (other % p).toNat _ _ ?_
 ·rintro ⟨y, h, _⟩; cases h
 ·rintro m e μ' ⟨rfl, rest, told, rfl, hm, q1, q2, q3, q4, t, ht⟩
  by_cases e1 : rest = 1
  ·subst e1
   refine ⟨false, μ', by simp, ?_⟩
   rw [if_neg (by simp)]
   refine ⟨told, by simp, q3, q4, ?_⟩
   rw [ht]
   simp
   exact Int.emod_eq_zero_of_dvd ⟨t, by lia⟩
  ·refine ⟨true, μ', by simp [e1], ?_⟩
   rw [if_pos rfl]
   have d1 : 0 ≤ p / rest := Int.ediv_nonneg (by first | exact hp0 | exact Int.ne_of_gt hp0 | exact Int.le_of_lt hp0 | lia) (by first | exact hp0 | exact Int.ne_of_gt hp0 | exact Int.le_of_lt hp0 | lia)
   have d2 : p / rest ≤ p := Int.ediv_le_self _ (by first | exact hp0 | exact Int.ne_of_gt hp0 | exact Int.le_of_lt hp0 | lia)
   have hm2 : fMulA (.int (-told)) (.int (p / rest)) = some (.int (-told * (p / rest))) := fMulA_l _ _ (by first | exact hp0 | exact Int.ne_of_gt hp0 | exact Int.le_of_lt hp0 | lia) (by first | exact hp0 | exact Int.ne_of_gt hp0 | exact Int.le_of_lt hp0 | lia)
   have hr : 0 < rest := by lia
   have hr2 : rest < 1073741824 := by lia
   (try simp_all! only []); simp [hp, hr, hr2, hm2]
   have m0 := Int.emod_nonneg p (show rest ≠ 0 by lia)
   have m1 := Int.emod_lt_of_pos p hr
   have m2 := pr_no hP rest (by first | exact hp0 | exact Int.ne_of_gt hp0 | exact Int.le_of_lt hp0 | lia) q2
   have t0 := Int.emod_nonneg (-told * (p / rest)) (Int.ne_of_gt hp0)
   have t1 := Int.emod_lt_of_pos (-told * (p / rest)) hp
   refine ⟨(p % rest).toNat, by lia, p % rest, -told * (p / rest) % p, ⟨rfl, rfl⟩, rfl, by lia, by lia, t0, t1, ?_⟩
   obtain ⟨u, hu⟩ := md (-told * (p / rest)) p
   have e3 : p % rest = p - rest * (p / rest) := Int.emod_def p rest
   rw [hu, e3]
   refine ⟨-(u * other) - (p / rest) * t - one, ?_⟩
   generalize p / rest = d
   grind
 ·have b0 := Int.emod_nonneg one (Int.ne_of_gt hp0)
  have b1 := Int.emod_lt_of_pos one hp
  refine ⟨rfl, _, _, rfl, rfl, by lia, r1, b0, b1, ?_⟩
  obtain ⟨u, hu⟩ := md one p
  obtain ⟨v, hv⟩ := md other p
  exact ⟨one * v - u * other, by rw [hu, hv]; grind⟩
theorem times_ok {p : Int} {L : Nat} (hp : 0 < p) (hp2 : p < 1000000) (n : Int) (r : List Int) (μ : Store) (h : Rw p L r) (hl : L ≤ 1000) :
  fnV 3 b_times [.val (.int p), .val (.int n), .val (li r)] μ = .ok (.val (li (tm p n r))) μ := by
 unfold b_times
 simp
 rw [compL_ofA _ (fun e : Int => .int (n * e % p)) (by simp)]
 ·rw [R.calm_ok, R.bind_ok, if_pos (by have := h.len; simp [szL]; lia)]
  (try simp_all! only []); simp [tm, Function.comp_def]
 ·intro e he
  have h1 := h.lo e he
  have h2 := h.hi e he
  refine ⟨_, rfl, ?_⟩
  have : fMulA (.int n) (.int e) = some (.int (n * e)) := fMulA_r _ _ (by lia) (by lia)
  (try simp_all! only []); simp [this, hp]
theorem atg {r : List Int} {k : Int} (h0 : 0 ≤ k) (h1 : k < r.length) : atI (r.map T.int) k = some (.int (g r k.toNat)) := by
 rw [atI_map h0 h1, g_at r k.toNat (by lia)]
theorem freed_ok {p : Int} {L : Nat} (hp : 0 < p) (hp2 : p < 1000000) (q : Nat) (row lead : List Int) (μ : Store) (h1 : Rw p L row) (h2 : Rw p L lead) (hl : L ≤ 1000) (hq : q < L) :
  fnV 5 b_freed [.val (.int p), .val (li row), .val (li lead), .val (.int q)] μ = .ok (.val (li (fr p row lead q))) μ := by
 unfold b_freed
 have ha : atI (row.map T.int) (q : Int) = some (.int (g row q)) := atg (by lia) (by have := h1.len; lia)
 simp [ha]
 by_cases e : g row q = 0
 ·simp [e, fr]
 ·have e' : (g row q == 0) = false := by simpa using e
  simp [e, e']
  rw [zipT_ints, compL_ofA _ (fun z : Int × Int => .int ((z.1 - g row q * z.2) % p)) (by simp)]
  ·rw [R.calm_ok, R.bind_ok, if_pos (by have := h1.len; simp [szL]; lia)]
   (try simp_all! only []); simp [fr, e, sub, Function.comp_def]
  ·rintro ⟨x, y⟩ hz
   have b := h1.g0 hp q
   refine ⟨_, rfl, ?_⟩
   have : fMulA (.int (g row q)) (.int y) = some (.int (g row q * y)) := fMulA_l _ _ (by lia) (by lia)
   simp [this, hp]
theorem first_ok {p : Int} {L m : Nat} (r : List Int) (μ : Store) (h : Rw p L r) (hm : m ≤ L) (hl : L ≤ 1000) :
  (fnV 3 b_first_place [.val (li r), .val (.int m)] μ = .ok (.val .non) μ ∧ ∀ j, j < m → g r j = 0) ∨
  ∃ f : Nat, fnV 3 b_first_place [.val (li r), .val (.int m)] μ = .ok (.val (.int f)) μ ∧ f < m ∧ g r f ≠ 0 := by
 unfold b_first_place
 simp (disch := lia)
 refine forL_inv (P := fun x => (RS.endV μ.length (x.seq (sRet (dC .non))) = R.ok (SV.val .non) μ ∧ ∀ j, j < m → g r j = 0) ∨ ∃ f : Nat, RS.endV μ.length (x.seq (sRet (dC .non))) = R.ok (SV.val (.int f)) μ ∧ f < m ∧ g r f ≠ 0)
  (fun i e μ' => μ' = μ ∧ (∀ j, j < i → g r j = 0) ∧ ∃ x, e = [some (.val (li r)), some (.val (.int m)), x]) (fun _ _ _ _ => trivial) ?_ ?_ ⟨rfl, by simp, none, rfl⟩
 ·rintro i t e μ' ht ⟨rfl, hz, x, rfl⟩
  obtain ⟨hi, rfl⟩ := intsT_at ht
  refine ⟨_, rfl, ?_⟩
  have hi' : i < m := by lia
  have ha : atI (r.map T.int) ((0 : Int) + i) = some (.int (g r i)) := by
   have := atg (r := r) (k := (0 : Int) + i) (by lia) (by have := h.len; lia)
   rwa [show ((0 : Int) + i).toNat = i by lia] at this
  simp at ha
  (try simp_all! only []); simp [ha]
  by_cases e : g r i = 0
  ·(try simp_all! only []); simp [e]
   intro j hj
   by_cases ej : j = i
   ·rw [ej]; exact e
   ·exact hz j (by lia)
  ·have e' : (g r i == 0) = false := by simpa using e
   (try simp_all! only []); simp [e, e']
   exact ⟨i, rfl, hi', e⟩
 ·rintro e μ' ⟨rfl, hz, x, rfl⟩
  left
  refine ⟨by simp, ?_⟩
  rw [intsT_len] at hz
  intro j hj
  exact hz j (by lia)
end Fw.E
namespace Fw.E
open PySem Fw Fw.H
noncomputable def dk (ls : List Ld) : List (Key × T) := ls.map fun q => ((.inl (q.1 : Int) : Key), li q.2)
theorem dk_append (a b : List Ld) : dk (a ++ b) = dk a ++ dk b := by simp [dk]
theorem dk_len (a : List Ld) : (dk a).length = a.length := by simp [dk]
theorem items_get {ls : List Ld} {i : Nat} {t : T} (h : (itemsT (dk ls))[i]? = some t) : ∃ q, ls[i]? = some q ∧ i < ls.length ∧ t = .tup [.int (q.1 : Int), li q.2] := by
 unfold itemsT dk at h
 rw [List.map_map, List.getElem?_map] at h
 obtain ⟨q, h1, rfl⟩ := Option.map_eq_some_iff.mp h
 exact ⟨q, h1, (List.getElem?_eq_some_iff.mp h1).1, rfl⟩
theorem frees_succ (p : Int) (ls : List Ld) (row : List Int) (i : Nat) (q : Ld) (h : ls[i]? = some q) : frees p (ls.take (i + 1)) row = fr p (frees p (ls.take i) row) q.2 q.1 := by
 unfold frees
 rw [List.take_add_one, h]
 simp
theorem frees_rw {p : Int} {L : Nat} (hp : 0 < p) : ∀ (ls : List Ld) (row : List Int), (∀ q ∈ ls, Rw p L q.2) → Rw p L row → Rw p L (frees p ls row)
 | [], row, _, h => h
 | q :: ls, row, hq, h => frees_rw hp ls _ (fun q' h' => hq q' (by simp [h'])) (fr_rw hp q.1 h (hq q (by simp)))
theorem valT_dk {ls : List Ld} {q : Ld} (hn : (ls.map (·.1)).Nodup) (h : q ∈ ls) : valT (dk ls) (.inl (q.1 : Int)) = some (li q.2) := by
 induction ls with
 | nil => simp at h
 | cons a ls ih =>
  have hn' : (a.1 :: ls.map (·.1)).Nodup := hn
  obtain ⟨h1, h2⟩ := List.nodup_cons.mp hn'
  have e : dk (a :: ls) = ((.inl (a.1 : Int) : Key), li a.2) :: dk ls := rfl
  rw [e]
  unfold valT
  rw [List.find?_cons]
  by_cases ea : a.1 = q.1
  ·have : q = a := by
    rcases List.mem_cons.mp h with h | h
    ·exact h
    ·exact absurd (List.mem_map.mpr ⟨q, h, ea.symm⟩) h1
   subst this
   simp
  ·have hne : ¬ ((Sum.inl (a.1 : Int) : Key) = .inl (q.1 : Int)) := fun z => ea (by have := Sum.inl.inj z; lia)
   have : q ∈ ls := by
    rcases List.mem_cons.mp h with h | h
    ·subst h; exact absurd rfl ea
    ·exact h
   simp only [hne, decide_false]
   exact ih h2 this
theorem any_dk (ls : List Ld) (f : Nat) : ((dk ls).any fun kv => decide (kv.1 = (.inl (f : Int) : Key))) = ls.any fun q => decide (q.1 = f) := by
 unfold dk
 rw [List.any_map]
 congr 1
 funext q
 show decide ((Sum.inl (q.1 : Int) : Key) = .inl (f : Int)) = decide (q.1 = f)
 by_cases e : q.1 = f
 ·simp [e]
 ·have : ¬ ((Sum.inl (q.1 : Int) : Key) = .inl (f : Int)) := fun z => e (by have := Sum.inl.inj z; lia)
  simp [e, this]
theorem putT_new {ls : List Ld} {f : Nat} (r : List Int) (h : ∀ q ∈ ls, q.1 ≠ f) : putT (dk ls) (.inl (f : Int)) (li r) = dk (ls ++ [(f, r)]) := by
 unfold putT
 rw [any_dk, if_neg, dk_append]
 ·rfl
 ·intro hc
  obtain ⟨q, hq, e⟩ := List.any_eq_true.mp hc
  exact h q hq (of_decide_eq_true e)
theorem putT_old {a b : List Ld} {q : Ld} (r : List Int) (hn : ((a ++ q :: b).map (·.1)).Nodup) : putT (dk (a ++ q :: b)) (.inl (q.1 : Int)) (li r) = dk (a ++ (q.1, r) :: b) := by
 unfold putT
 rw [any_dk, if_pos (List.any_eq_true.mpr ⟨q, by simp, by simp⟩)]
 have ne : ∀ x ∈ a ++ b, ¬ ((Sum.inl (x.1 : Int) : Key) = .inl (q.1 : Int)) := fun x hx z => by
  have e : x.1 = q.1 := by have := Sum.inl.inj z; lia
  rw [List.map_append, List.nodup_append] at hn
  obtain ⟨_, n2, n3⟩ := hn
  rcases List.mem_append.mp hx with h | h
  ·exact n3 x.1 (List.mem_map.mpr ⟨x, h, rfl⟩) q.1 (by simp) e
  ·have n2' : (q.1 :: b.map (·.1)).Nodup := n2
   exact (List.nodup_cons.mp n2').1 (List.mem_map.mpr ⟨x, h, e⟩)
 have same : ∀ l : List Ld, (∀ x ∈ l, x ∈ a ++ b) → (dk l).map (fun kv => if kv.1 = (.inl (q.1 : Int) : Key) then (kv.1, li r) else kv) = dk l := fun l hl => by
  unfold dk
  rw [List.map_map]
  refine List.map_congr_left fun x hx => ?_
  show (if (Sum.inl (x.1 : Int) : Key) = .inl (q.1 : Int) then _ else _) = _
  rw [if_neg (ne x (hl x hx))]
 rw [dk_append, List.map_append, same a (fun x h => by simp [h]), dk_append]
 congr 1
 show (if (Sum.inl (q.1 : Int) : Key) = .inl (q.1 : Int) then _ else _) :: (dk b).map _ = _
 rw [if_pos rfl, same b (fun x h => by simp [h])]
 rfl
section
variable {p : Int} {L m : Nat}
theorem inner1 (hP : IsPr p) (hl : L ≤ 1000) (hmL : m ≤ L) {ls : List Ld} {row : List Int} (hk : ∀ q ∈ ls, q.1 < m) (rl : ∀ q ∈ ls, Rw p L q.2) (hr : Rw p L row) (same : Store → Prop) (μ : Store) (hs : same μ) (x1 x2 x3 x4 x5 x7 x8 x9 x10 : Option SV) :
  ∃ y7 y8, forL same (bTup [7, 8]) (sSet 6 (dCall (cal (fnV 5 b_freed)) [(dVar 0), (dVar 6), (dVar 8), (dVar 7)])) (itemsT (dk ls)) [some (.val (.int p)), x1, x2, x3, x4, x5, some (.val (li row)), x7, x8, x9, x10] μ =
   .nx [some (.val (.int p)), x1, x2, x3, x4, x5, some (.val (li (frees p ls row))), y7, y8, x9, x10] μ := by
 have hb := hP.pos
 have hp0 : 0 < p := Int.lt_of_lt_of_le (by decide) hb.1
 obtain ⟨e', μ', h1, y7, y8, h2, h3⟩ := forL_nx (same := same) (b := bTup [7, 8]) (body := sSet 6 (dCall (cal (fnV 5 b_freed)) [(dVar 0), (dVar 6), (dVar 8), (dVar 7)])) (ts := itemsT (dk ls))
  (e := [some (.val (.int p)), x1, x2, x3, x4, x5, some (.val (li row)), x7, x8, x9, x10]) (μ := μ)
  (fun i e μ' => ∃ y7 y8, μ' = μ ∧ e = [some (.val (.int p)), x1, x2, x3, x4, x5, some (.val (li (frees p (ls.take i) row))), y7, y8, x9, x10])
  (fun i e μ' hX11_ => by obtain ⟨_, _, h, _⟩ := hX11_; rw [h]; exact hs) (fun i t e μ' ht hX21_ => by
   obtain ⟨y7, y8, hμ, he⟩ := hX21_
   subst hμ he
   obtain ⟨q, hq, hi, rfl⟩ := items_get ht
   have hm : q ∈ ls := List.mem_of_getElem? hq
   have hf := freed_ok (p := p) (L := L) (by first | exact hp0 | exact Int.ne_of_gt hp0 | exact Int.le_of_lt hp0 | lia) (by first | exact hp0 | exact Int.ne_of_gt hp0 | exact Int.le_of_lt hp0 | lia) q.1 (frees p (ls.take i) row) q.2 μ' (frees_rw (by first | exact hp0 | exact Int.ne_of_gt hp0 | exact Int.le_of_lt hp0 | lia) _ _ (fun q' h' => rl q' (List.mem_of_mem_take h')) hr) (rl q hm) hl (by have := hk q hm; lia)
   refine ⟨_, _, _, bTup_pair _ _ _ _ _, ?_, some (.val (.int q.1)), some (.val (li q.2)), rfl, rfl⟩
   rw [frees_succ p ls row i q hq]
   simp only [sSet_is, dCall_is, dArgs_cons, dVar_is, dArgs_nil, List.set_cons_succ, List.set_cons_zero, slot_succ, slot_zero, R.lift_some, R.bind_ok, cal_is]
   rw [hf]
   rfl) ⟨x7, x8, rfl, rfl⟩
 refine ⟨y7, y8, ?_⟩
 rw [h1, h2, h3]
 have : (itemsT (dk ls)).length = ls.length := by simp [itemsT, dk]
 rw [this, List.take_length]
theorem led_succ (u : List Int) (f : Nat) (ls : List Ld) (i : Nat) (q : Ld) (h : ls[i]? = some q) : led p (ls.take (i + 1)) u f = led p (ls.take i) u f ++ [(q.1, fr p q.2 u f)] := by
 unfold led
 rw [List.take_add_one, h]
 simp
theorem keys_get {ls : List Ld} {i : Nat} {t : T} (h : ((dk ls).map fun p => keyT p.1)[i]? = some t) : ∃ q, ls[i]? = some q ∧ i < ls.length ∧ t = .int (q.1 : Int) := by
 unfold dk at h
 rw [List.map_map, List.getElem?_map] at h
 obtain ⟨q, h1, rfl⟩ := Option.map_eq_some_iff.mp h
 exact ⟨q, h1, (List.getElem?_eq_some_iff.mp h1).1, rfl⟩
theorem inner2 (hP : IsPr p) (hl : L ≤ 1000) (hmL : m ≤ L) {ls : List Ld} {u : List Int} {f : Nat} (hn : (ls.map (·.1)).Nodup) (hf : f < m) (rl : ∀ q ∈ ls, Rw p L q.2) (hu : Rw p L u) (hsz : ls.length < szL) (same : Store → Prop) (hs : ∀ μ, same μ) (μ tl : Store) (x1 x2 x4 x5 x6 x7 x8 : Option SV) :
  ∃ y7, forL same (bName 7) (sPutD 3 (dVar 7) (dCall (cal (fnV 5 b_freed)) [(dVar 0), (dBin fGetD (dVar 3) (dVar 7)), (dVar 10), (dVar 9)])) ((dk ls).map fun p => keyT p.1)
   [some (.val (.int p)), x1, x2, some (.cel μ.length), x4, x5, x6, x7, x8, some (.val (.int f)), some (.val (li u))] (μ ++ (true, .dct (dk ls)) :: tl) =
   .nx [some (.val (.int p)), x1, x2, some (.cel μ.length), x4, x5, x6, y7, x8, some (.val (.int f)), some (.val (li u))] (μ ++ (true, .dct (dk (led p ls u f))) :: tl) := by
 have hb := hP.pos
 have hp0 : 0 < p := Int.lt_of_lt_of_le (by decide) hb.1
 obtain ⟨e', μ', h1, y7, h2, h3⟩ := forL_nx (same := same) (b := bName 7) (body := sPutD 3 (dVar 7) (dCall (cal (fnV 5 b_freed)) [(dVar 0), (dBin fGetD (dVar 3) (dVar 7)), (dVar 10), (dVar 9)])) (ts := (dk ls).map fun p => keyT p.1)
  (e := [some (.val (.int p)), x1, x2, some (.cel μ.length), x4, x5, x6, x7, x8, some (.val (.int f)), some (.val (li u))]) (μ := μ ++ (true, .dct (dk ls)) :: tl)
  (fun i e μ' => ∃ y7, μ' = μ ++ (true, .dct (dk (led p (ls.take i) u f ++ ls.drop i))) :: tl ∧ e = [some (.val (.int p)), x1, x2, some (.cel μ.length), x4, x5, x6, y7, x8, some (.val (.int f)), some (.val (li u))])
  (fun i e μ' _ => hs μ') (fun i t e μ' ht hX11_ => by
   obtain ⟨y7, hμ, he⟩ := hX11_
   subst hμ he
   obtain ⟨q, hq, hi, rfl⟩ := keys_get ht
   have hm : q ∈ ls := List.mem_of_getElem? hq
   have hd : ls.drop i = q :: ls.drop (i + 1) := by
    rw [List.drop_eq_getElem_cons hi]
    congr 1
    rw [List.getElem?_eq_getElem hi] at hq
    exact Option.some.inj hq
   have hkeys : (led p (ls.take i) u f ++ q :: ls.drop (i + 1)).map (·.1) = ls.map (·.1) := by
    rw [← hd, List.map_append]
    have : (led p (ls.take i) u f).map (·.1) = (ls.take i).map (·.1) := by unfold led; rw [List.map_map]; rfl
    rw [this, ← List.map_append, List.take_append_drop]
   have hnd : ((led p (ls.take i) u f ++ q :: ls.drop (i + 1)).map (·.1)).Nodup := by rw [hkeys]; exact hn
   have hlen : (dk (led p (ls.take i) u f ++ q :: ls.drop (i + 1))).length < szL := by
    have := congrArg List.length hkeys
    simp only [List.length_map] at this
    rw [dk_len, this]; exact hsz
   have hv := valT_dk hnd (q := q) (by simp)
   have hfr := freed_ok (p := p) (L := L) (by first | exact hp0 | exact Int.ne_of_gt hp0 | exact Int.le_of_lt hp0 | lia) (by first | exact hp0 | exact Int.ne_of_gt hp0 | exact Int.le_of_lt hp0 | lia) f q.2 u (μ ++ (true, .dct (dk (led p (ls.take i) u f ++ q :: ls.drop (i + 1)))) :: tl) (rl q hm) hu hl (by first | exact hp0 | exact Int.ne_of_gt hp0 | exact Int.le_of_lt hp0 | lia)
   rw [hd]
   refine ⟨_, _, _, bName_is _ _ _, ?_, some (.val (.int q.1)), rfl, rfl⟩
   rw [led_succ u f ls i q hq, List.append_assoc, List.singleton_append, ← putT_old (fr p q.2 u f) hnd]
   simp only [sPutD_is, dCall_is, dArgs_cons, dVar_is, dArgs_nil, List.set_cons_succ, List.set_cons_zero, slot_succ, slot_zero, R.lift_some, R.bind_ok, R.toS_ok, cal_is, dBin_is, rd_cel, rd_val, st_get0, Option.map_some, ap2_some, fGetD_int, hv]
   rw [hfr]
   simp only [R.calm_ok, R.toS_ok, frz_val]
   rw [putAtD_at (kts := dk (led p (ls.take i) u f ++ q :: ls.drop (i + 1))) (by simp) hlen]
   simp) ⟨x7, by simp [led], rfl⟩
 refine ⟨y7, ?_⟩
 rw [h1, h2, h3]
 have : ((dk ls).map fun p => keyT p.1).length = ls.length := by simp [dk]
 rw [this, List.take_length, List.drop_length, List.append_nil]
end
end Fw.E
namespace Fw.E
open PySem Fw Fw.H
seal RS.goes
theorem goes_seq {r : RS} {k : Slots → Store → RS} {I : Slots → Store → Prop} {P : RS → Prop} {e' : Slots} {μ' : Store} (h : r = .nx e' μ') (hk : (k e' μ').goes I P) : (r.seq k).goes I P := by rw [h]; exact hk
section
variable {p : Int} {L m : Nat}
theorem eased_ok (hP : IsPr p) (hl : L ≤ 1000) (hmL : m ≤ L) (rows : List (List Int)) (hR : ∀ r ∈ rows, Rw p L r) (hrn : rows.length ≤ 1000) (x : SV) (μ : Store) (hx : ∀ l, rd (μ ++ l) x = some (.lst (rows.map li))) :
  ∃ ls ns, fnV 11 b_eased [.val (.int p), x, .val (.int m)] μ = .ok (.val (.tup [.dct (dk ls), .lst (ns.map li)])) μ ∧ Easy p L m ls ns rows ∧ ls.length + ns.length = rows.length := by
 have hb := hP.pos
 have hp0 : 0 < p := Int.lt_of_lt_of_le (by decide) hb.1
 unfold b_eased
 simp [hx]
 refine forL_inv (P := fun r => ∃ ls ns, RS.endV μ.length (r.seq (sRet (dTup [dVar 3, dVar 4]))) = R.ok (SV.val (.tup [.dct (dk ls), .lst (ns.map li)])) μ ∧ Easy p L m ls ns rows ∧ ls.length + ns.length = rows.length)
  (fun i e μ' => ∃ ls ns x5 x6 x7 x8 x9 x10, e = [some (.val (.int p)), some x, some (.val (.int m)), some (.cel μ.length), some (.cel (μ.length + 1)), x5, x6, x7, x8, x9, x10] ∧ μ' = μ ++ [(true, .dct (dk ls)), (true, .lst (ns.map li))] ∧ Easy p L m ls ns (rows.take i) ∧ ls.length + ns.length = i)
  ?_ ?_ ?_ ⟨[], [], none, none, none, none, none, none, rfl, rfl, Easy.start p L m, rfl⟩
 ·rintro i e μ' ⟨ls, ns, _, _, _, _, _, _, _, h, _⟩
  rw [h]; exact hx _
 ·rintro i t e μ' ht ⟨ls, ns, x5, x6, x7, x8, x9, x10, rfl, rfl, E, hlen⟩
  rw [List.getElem?_map] at ht
  obtain ⟨row, hrow, rfl⟩ := Option.map_eq_some_iff.mp ht
  have hi : i < rows.length := (List.getElem?_eq_some_iff.mp hrow).1
  have hr : Rw p L row := hR row (List.mem_of_getElem? hrow)
  have htk : rows.take (i + 1) = rows.take i ++ [row] := by rw [List.take_add_one, hrow]; rfl
  obtain ⟨r1, r2, r3⟩ := E.rest (by first | exact hp0 | exact Int.ne_of_gt hp0 | exact Int.le_of_lt hp0 | lia) hr
  refine ⟨_, bName_is _ _ _, ?_⟩
  (try simp_all! only []); simp only [sSeq_is, sSet_is, dVar_is, List.set_cons_succ, List.set_cons_zero, slot_succ, slot_zero, R.lift_some, R.toS_ok, RS.seq_nx, sFor_is, iItems_is, R.bind_ok, rd_cel, st_get0, Option.map_some, Option.bind_some, asD_dct]
  obtain ⟨y7, y8, h⟩ := inner1 hP hl hmL E.key E.rl hr (fun μ' => Option.map (fun x => x.snd) μ'[List.length μ]? = some (T.dct (dk ls))) (μ ++ [(true, T.dct (dk ls)), (true, T.lst (ns.map li))]) (by simp) (some x) (some (.val (.int m))) (some (.cel μ.length)) (some (.cel (μ.length + 1))) (some (.val (li row))) x7 x8 x9 x10
  refine goes_seq h ?_
  clear h
  simp only [sSeq_is, sSet_is, dVar_is, dCall_is, dArgs_cons, dArgs_nil, cal_is, List.set_cons_succ, List.set_cons_zero, slot_succ, slot_zero, R.lift_some, R.bind_ok, R.toS_ok, RS.seq_nx]
  have hfo := first_ok (m := m) (frees p ls row) (μ ++ [(true, T.dct (dk ls)), (true, T.lst (ns.map li))]) r1 hmL hl
  generalize fnV 3 b_first_place [.val (li (frees p ls row)), .val (.int m)] (μ ++ [(true, T.dct (dk ls)), (true, T.lst (ns.map li))]) = G at hfo ⊢
  rcases hfo with ⟨rfl, hz⟩ | ⟨f, rfl, hfm, hne⟩
  ·skip
   have hsz : (ns.map li).length < szL := by rw [List.length_map]; unfold szL; lia
   (try simp_all! only []); simp [append_st1 _ _ _ _ _ hsz]
   refine ⟨ls, ns ++ [frees p ls row], ⟨rfl, by simp⟩, ?_, by simp; lia⟩
   rw [htk]
   exact E.nought (by first | exact hp0 | exact Int.ne_of_gt hp0 | exact Int.le_of_lt hp0 | lia) hr hz
  ·skip
   have ha : atI ((frees p ls row).map T.int) (f : Int) = some (.int (g (frees p ls row) f)) := atg (by first | exact hp0 | exact Int.ne_of_gt hp0 | exact Int.le_of_lt hp0 | lia) (by rw [r1.len]; lia)
   have gb := r1.g0 (p := p) (by first | exact hp0 | exact Int.ne_of_gt hp0 | exact Int.le_of_lt hp0 | lia) f
   have hmod : g (frees p ls row) f % p ≠ 0 := by rw [Int.emod_eq_of_lt gb.1 gb.2]; exact hne
   obtain ⟨y, ho, y0, y1, yz⟩ := over_ok hP 1 (g (frees p ls row) f) (μ ++ [(true, T.dct (dk ls)), (true, T.lst (ns.map li))]) hmod
   have ht := times_ok (p := p) (L := L) (by first | exact hp0 | exact Int.ne_of_gt hp0 | exact Int.le_of_lt hp0 | lia) (by first | exact hp0 | exact Int.ne_of_gt hp0 | exact Int.le_of_lt hp0 | lia) y (frees p ls row) (μ ++ [(true, T.dct (dk ls)), (true, T.lst (ns.map li))]) r1 hl
   have hinv : Inv p y (g (frees p ls row) f) := by
    unfold Inv
    exact Int.emod_eq_emod_iff_emod_sub_eq_zero.mpr yz
   have hE := E.lead (by first | exact hp0 | exact Int.ne_of_gt hp0 | exact Int.le_of_lt hp0 | lia) hr hfm hne hinv
   have fne : ∀ q ∈ ls, q.1 ≠ f := fun q hq e => hne (by rw [← e]; exact r2 q hq)
   generalize hu : tm p y (frees p ls row) = u at ht hE
   have hu2 : Rw p L u := by rw [← hu]; exact tm_rw (by first | exact hp0 | exact Int.ne_of_gt hp0 | exact Int.le_of_lt hp0 | lia) y r1.len
   (try simp_all! only []); simp only [R.calm_ok, R.toS_ok, sIf_is, dUn_is, dVar_is, List.set_cons_succ, List.set_cons_zero, slot_succ, slot_zero, R.lift_some, R.bind_ok, rd_val, ap1_some, isNon_int, Option.map_some, asB_bl, Bool.false_eq_true, if_false, sSeq_is, sSet_is, dCall_is, dArgs_cons, dArgs_nil, cal_is, dC_is, dIdx_is, Option.bind_some, idxS_lst, ha, ho, ht, RS.seq_nx, sFor_is, iSeq_is, rd_cel, st_get0, fKeys, seqItems_lst]
   refine (inner2 hP hl hmL E.nd hfm E.rl hu2 (by unfold szL; lia) _ ?_ _ _ _ _ _ _ _ _ _).elim fun y7 h => goes_seq h ?_
   ·intro μ''; trivial
   have hkl : (dk (led p ls u f)).length < szL := by rw [dk_len]; simp [led]; unfold szL; lia
   simp only [sPutD_is, dVar_is, slot_succ, slot_zero, R.lift_some, R.toS_ok, rd_val, frz_val]
   rw [putAtD_at (kts := dk (led p ls u f)) (by simp) hkl]
   (try simp_all! only []); simp only [R.lift_some, R.toS_ok, goes_nx, st_set0]
   rw [putT_new u (fun q hq => by
    obtain ⟨q0, h0, rfl⟩ := List.mem_map.mp hq
    exact fne q0 h0)]
   refine ⟨_, ns, _, _, _, _, _, _, rfl, rfl, ?_, ?_⟩
   ·rw [htk]; exact hE
   ·simp [led]; lia
 ·rintro e μ' ⟨ls, ns, x5, x6, x7, x8, x9, x10, rfl, rfl, E, hlen⟩
  rw [List.length_map, List.take_length] at E
  rw [List.length_map] at hlen
  exact ⟨ls, ns, by simp, E, hlen⟩
end
end Fw.E
namespace Fw.E
open PySem Fw Fw.H
noncomputable def eu (n k : Nat) : List Int := (List.replicate n 0).set k 1
theorem dot_zeros (n : Nat) (r : List Int) : dot (List.replicate n 0) r = 0 := by
 induction n generalizing r with
 | zero => simp
 | succ n ih => cases r with
  | nil => simp
  | cons x r => rw [List.replicate_succ, dot_cons, ih]; simp
theorem dot_eu : ∀ (n k : Nat) (r : List Int), k < n → dot (eu n k) r = g r k
 | 0, k, r, h => by lia
 | n + 1, 0, r, h => by
  cases r with
  | nil => simp [g]
  | cons x r =>
   have : eu (n + 1) 0 = 1 :: List.replicate n 0 := by simp [eu, List.replicate_succ]
   rw [this, dot_cons, dot_zeros, g_zero]; lia
 | n + 1, k + 1, r, h => by
  have e : eu (n + 1) (k + 1) = 0 :: eu n k := by simp [eu, List.replicate_succ]
  cases r with
  | nil => simp [g]
  | cons x r => rw [e, dot_cons, g_succ, dot_eu n k r (by lia)]; lia
theorem dot_neg (l r : List Int) : dot (l.map fun x => -x) r = - dot l r := by
 induction l generalizing r with
 | nil => simp
 | cons x l ih => cases r with
  | nil => simp
  | cons y r => simp only [List.map_cons, dot_cons, ih]; rw [Int.neg_mul]; lia
theorem dot_zero : ∀ (xs ys : List Int), (∀ i, g xs i * g ys i = 0) → dot xs ys = 0
 | [], ys, h => by simp
 | x :: xs, [], h => by simp
 | x :: xs, y :: ys, h => by
  rw [dot_cons, dot_zero xs ys fun i => by simpa [g_succ] using h (i + 1)]
  have := h 0
  rw [g_zero, g_zero] at this
  lia
theorem dot_single : ∀ (xs ys : List Int) (k : Nat), (∀ i, i ≠ k → g xs i * g ys i = 0) → dot xs ys = g xs k * g ys k
 | [], ys, k, h => by simp [g]
 | x :: xs, [], k, h => by simp [g]
 | x :: xs, y :: ys, 0, h => by
  rw [dot_cons, dot_zero xs ys fun i => by simpa [g_succ] using h (i + 1) (by lia), g_zero, g_zero]; lia
 | x :: xs, y :: ys, k + 1, h => by
  have := h 0 (by lia)
  rw [g_zero, g_zero] at this
  rw [dot_cons, this, dot_single xs ys k fun i hi => by simpa [g_succ] using h (i + 1) (by lia), g_succ, g_succ]; lia
theorem g_take (r : List Int) (n k : Nat) (h : k < n) : g (r.take n) k = g r k := by
 simp [g, List.getD_eq_getElem?_getD, List.getElem?_take, h]
theorem g_take_out (r : List Int) (n k : Nat) (h : n ≤ k) : g (r.take n) k = 0 := by
 simp [g, List.getD_eq_getElem?_getD, List.getElem?_take, Nat.not_lt.mpr h]
theorem g_set (r : List Int) (k j : Nat) (v : Int) (h : k < r.length) : g (r.set k v) j = if j = k then v else g r j := by
 by_cases e : j = k
 ·subst e; simp [g, List.getD_eq_getElem?_getD, h]
 ·simp [g, List.getD_eq_getElem?_getD, List.getElem?_set, e, Ne.symm e]
theorem split_at (r : List Int) (m : Nat) (h : m < r.length) : r = r.take m ++ g r m :: r.drop (m + 1) := by
 rw [g_at r m h, ← List.drop_eq_getElem_cons h, List.take_append_drop]
theorem dot_split (a c r : List Int) (b : Int) (m : Nat) (ha : a.length = m) (h : m < r.length) : dot (a ++ b :: c) r = dot a (r.take m) + b * g r m + dot c (r.drop (m + 1)) := by
 have e := split_at r m h
 have : dot (a ++ b :: c) (r.take m ++ g r m :: r.drop (m + 1)) = dot a (r.take m) + (b * g r m + dot c (r.drop (m + 1))) := by
  rw [dot_append _ _ _ _ (by simp [ha]; lia), dot_cons]
 rw [← e] at this
 rw [this]; lia
theorem eu_len (n k : Nat) : (eu n k).length = n := by simp [eu]
theorem rw_zeros {p : Int} (hp : 1 < p) (n : Nat) : Rw p n (List.replicate n 0) := ⟨by simp, fun x hx => by have := (List.mem_replicate.mp hx).2; lia, fun x hx => by have := (List.mem_replicate.mp hx).2; lia⟩
theorem Rw.set {p : Int} {n k : Nat} {r : List Int} {v : Int} (h : Rw p n r) (h0 : 0 ≤ v) (h1 : v < p) : Rw p n (r.set k v) := by
 refine ⟨by simp [h.len], fun x hx => ?_, fun x hx => ?_⟩
 ·rcases List.mem_or_eq_of_mem_set hx with z | z
  ·exact h.lo x z
  ·lia
 ·rcases List.mem_or_eq_of_mem_set hx with z | z
  ·exact h.hi x z
  ·lia
theorem Rw.append {p : Int} {n k : Nat} {r s : List Int} (h : Rw p n r) (h' : Rw p k s) : Rw p (n + k) (r ++ s) := by
 refine ⟨by simp [h.len, h'.len], fun x hx => ?_, fun x hx => ?_⟩
 ·rcases List.mem_append.mp hx with z | z
  ·exact h.lo x z
  ·exact h'.lo x z
 ·rcases List.mem_append.mp hx with z | z
  ·exact h.hi x z
  ·exact h'.hi x z
theorem Rw.drop {p : Int} {n k : Nat} {r : List Int} (h : Rw p n r) : Rw p (n - k) (r.drop k) :=
 ⟨by simp [h.len], fun x hx => h.lo x (List.mem_of_mem_drop hx), fun x hx => h.hi x (List.mem_of_mem_drop hx)⟩
noncomputable def col (lines : List (List Int)) (j : Nat) : List Int := lines.map fun l => g l j
noncomputable def aug (w : Nat) (lines : List (List Int)) (ws : List Int) (j : Nat) : List Int := (col lines j ++ [g ws j]) ++ eu w j
section
variable {p : Int} {w : Nat} {lines : List (List Int)} {ws : List Int}
theorem col_rw (hp : 0 < p) (hl : ∀ l ∈ lines, Rw p w l) (j : Nat) : Rw p lines.length (col lines j) := by
 refine ⟨by simp [col], fun x hx => ?_, fun x hx => ?_⟩
 ·obtain ⟨l, h, rfl⟩ := List.mem_map.mp hx
  exact ((hl l h).g0 hp j).1
 ·obtain ⟨l, h, rfl⟩ := List.mem_map.mp hx
  exact ((hl l h).g0 hp j).2
theorem aug_rw (hp : 1 < p) (hl : ∀ l ∈ lines, Rw p w l) (hw : Rw p w ws) (j : Nat) : Rw p (lines.length + 1 + w) (aug w lines ws j) := by
 have g0 := hw.g0 (by lia) j
 have h1 : Rw p 1 [g ws j] := ⟨rfl, fun x hx => by simp at hx; lia, fun x hx => by simp at hx; lia⟩
 exact ((col_rw (by lia) hl j).append h1).append ((rw_zeros hp w).set (by lia) hp)
theorem g_col (k j : Nat) (h : k < lines.length) : g (col lines j) k = g lines[k] j := by
 rw [g_at _ _ (by simp [col, h])]; simp [col]
theorem aug_parts (j : Nat) : (aug w lines ws j).take lines.length = col lines j ∧ g (aug w lines ws j) lines.length = g ws j ∧ (aug w lines ws j).drop (lines.length + 1) = eu w j := by
 have hc : (col lines j).length = lines.length := by simp [col]
 refine ⟨?_, ?_, ?_⟩
 ·unfold aug; rw [List.append_assoc, List.take_append_of_le_length (by lia), List.take_of_length_le (by lia)]
 ·unfold aug; rw [g_at _ _ (by simp [hc])]; simp [hc]
 ·unfold aug; rw [List.drop_append_of_le_length (by simp [hc]), List.drop_of_length_le (by simp [hc]), List.nil_append]
theorem told {ls : List Ld} {ns : List (List Int)} (hp : 1 < p) (E : Easy p (lines.length + 1 + w) lines.length ls ns ((List.range w).map fun j => aug w lines ws j)) {r : List Int} (hr : r ∈ ns) (hw : ws.length = w) (hl : ∀ l ∈ lines, l.length = w) :
  (∀ l ∈ lines, p ∣ dot l (r.drop (lines.length + 1))) ∧ p ∣ g r lines.length - dot ws (r.drop (lines.length + 1)) := by
 have hrl := (E.rn r hr).len
 have use : ∀ (a v : List Int) (b : Int), a.length = lines.length → (∀ j, j < w → dot a (col lines j) + b * g ws j = g v j) → p ∣ dot a (r.take lines.length) + b * g r lines.length - dot v (r.drop (lines.length + 1)) := fun a v b ha hv => by
  have hz := ((E.eq (a ++ b :: v.map fun x => -x)).mp fun q hq => by
   obtain ⟨j, hj, rfl⟩ := List.mem_map.mp hq
   have hj : j < w := List.mem_range.mp hj
   obtain ⟨e1, e2, e3⟩ := aug_parts (w := w) (lines := lines) (ws := ws) j
   unfold Z
   rw [dot_split a _ _ b lines.length ha (by simp [aug, col]), e1, e2, e3, dot_neg, dot_comm v (eu w j), dot_eu w j v hj, hv j hj]
   exact ⟨0, by lia⟩).2 r hr
  unfold Z at hz
  rw [dot_split a _ _ b lines.length ha (by lia), dot_neg] at hz
  exact hz
 refine ⟨fun l hl' => ?_, ?_⟩
 ·obtain ⟨k, hk, rfl⟩ := List.mem_iff_getElem.mp hl'
  have := use (eu lines.length k) lines[k] 0 (eu_len _ _) fun j hj => by rw [dot_eu _ _ _ hk, g_col k j hk]; lia
  rw [dot_eu _ _ _ hk, g_take _ _ _ hk, E.no r hr k hk] at this
  obtain ⟨t, ht⟩ := this
  exact ⟨-t, by rw [Int.mul_neg]; lia⟩
 ·have := use (List.replicate lines.length 0) ws 1 (by simp) fun j hj => by rw [dot_zeros]; lia
  rw [dot_zeros] at this
  simpa using this
theorem summed {ls : List Ld} {ns : List (List Int)} (hp : 1 < p) (E : Easy p (lines.length + 1 + w) lines.length ls ns ((List.range w).map fun j => aug w lines ws j)) (h0 : ∀ r ∈ ns, g r lines.length = 0) {ms : List Int} (hm : ms.length = lines.length)
  (h1 : ∀ q ∈ ls, g ms q.1 = g q.2 lines.length) (h2 : ∀ i, (∀ q ∈ ls, q.1 ≠ i) → g ms i = 0) (j : Nat) (hj : j < w) : p ∣ dot ms (col lines j) - g ws j := by
 have hz := (E.eq (ms ++ (-1) :: List.replicate w 0)).mpr ⟨fun q hq => ?_, fun r hr => ?_⟩ (aug w lines ws j) (List.mem_map.mpr ⟨j, List.mem_range.mpr hj, rfl⟩)
 ·obtain ⟨e1, e2, e3⟩ := aug_parts (w := w) (lines := lines) (ws := ws) j
  unfold Z at hz
  rw [dot_split ms _ _ _ lines.length hm (by simp [aug, col]), e1, e2, dot_zeros] at hz
  obtain ⟨t, ht⟩ := hz
  exact ⟨t, by lia⟩
 ·unfold Z
  rw [dot_split ms _ _ _ lines.length hm (by rw [(E.rl q hq).len]; lia), dot_zeros, dot_single ms (q.2.take lines.length) q.1, g_take _ _ _ (E.key q hq), E.one q hq, h1 q hq]
  ·exact ⟨0, by lia⟩
  ·intro i hi
   by_cases hk : ∃ q' ∈ ls, q'.1 = i
   ·obtain ⟨q', hq', rfl⟩ := hk
    rw [g_take _ _ _ (E.key q' hq'), E.off q hq q' hq' hi]; simp
   ·rw [h2 i fun q' hq' e => hk ⟨q', hq', e⟩]; simp
 ·unfold Z
  rw [dot_split ms _ _ _ lines.length hm (by rw [(E.rn r hr).len]; lia), dot_zeros, h0 r hr, dot_zero]
  ·exact ⟨0, by lia⟩
  ·intro i
   by_cases hi : i < lines.length
   ·rw [g_take _ _ _ hi, E.no r hr i hi]; simp
   ·rw [g_take_out _ _ _ (by lia)]; simp
end
end Fw.E
namespace Fw.E
open PySem Fw Fw.H
noncomputable def b_numbers_at : DS :=
 (sRet (dComp (iSeq (dVar 1)) [none, some 0, some 2] (bName 0) (dC (.bl true)) (dBin fMod (dIdx (dVar 0) (dVar 2)) (dVar 1))))
noncomputable def b_unit : DS :=
 (sSeq (sSet 2 (dCell (dRep fRep [(dC (.int 0))] (dVar 0))))
 (sSeq (sSetItem 2 (dVar 1) (dC (.int 1)))
 (sRet (dVar 2))))
noncomputable def b_held : DS :=
 (sSeq (sSet 4 (dLen (dVar 2)))
 (sSeq (sSet 5 (dCell (dLst [])))
 (sSeq (sFor (iRange1 (dVar 1)) (bName 6) (sAppend (dVar 5) (dBin fAdd (dBin fAdd (dCall (cal (fnV 3 b_numbers_at)) [(dVar 0), (dVar 2), (dVar 6)]) (dLst [(dBin fMod (dIdx (dVar 3) (dVar 6)) (dVar 0))])) (dCall (cal (fnV 3 b_unit)) [(dVar 1), (dVar 6)]))))
 (sSeq (sSet 7 (dCall (cal (fnV 11 b_eased)) [(dVar 0), (dVar 5), (dVar 4)]))
 (sSeq (sFor (iSeq (dIdx (dVar 7) (dC (.int 1)))) (bName 8) (sIf (dBin fNe (dIdx (dVar 8) (dVar 4)) (dC (.int 0))) (sRet (dBox [(dC (.str "turn")), (dUn fTuple (dCall (cal (fnV 3 b_times)) [(dVar 0), (dCall (cal (fnV 5 b_over)) [(dVar 0), (dC (.int 1)), (dIdx (dVar 8) (dVar 4))]), (dCut (dVar 8) (some (dBin fAdd (dVar 4) (dC (.int 1)))) none)]))])) sNil))
 (sSeq (sSet 9 (dCell (dRep fRep [(dC (.int 0))] (dVar 4))))
 (sSeq (sFor (iItems (dIdx (dVar 7) (dC (.int 0)))) (bTup [6, 10]) (sSetItem 9 (dVar 6) (dIdx (dVar 10) (dVar 4))))
 (sRet (dBox [(dC (.str "sum")), (dVar 9)])))))))))
noncomputable abbrev tu (r : List Int) : T := .tup (r.map T.int)
theorem lenS_of {μ : Store} {x : SV} {ts : List T} (h : rd μ x = some (.lst ts)) : lenS μ x = some (.int ts.length) := by
 cases x with
 | val t => cases h; rfl
 | cel k => rw [lenS_cel, h]; rfl
 | box xs => cases h
theorem idxS_of {μ : Store} {x : SV} {ts : List T} {i : Int} (h : rd μ x = some (.lst ts)) : idxS μ x (.int i) = (atI ts i).map SV.val := by
 cases x with
 | val t => cases h; rfl
 | cel k => rw [idxS_cel, h]; rfl
 | box xs => cases h
section
variable {p : Int} {w : Nat} {lines : List (List Int)} {ws : List Int}
noncomputable def mdl (p : Int) (l : List Int) : List Int := l.map (· % p)
theorem g_md (p : Int) (l : List Int) (j : Nat) : g (mdl p l) j = g l j % p := by
 unfold g mdl
 rw [List.getD_eq_getElem?_getD, List.getD_eq_getElem?_getD, List.getElem?_map]
 cases l[j]? with
 | none => simp
 | some x => simp
theorem md_rw {l : List Int} (hp : 0 < p) (h : l.length = w) : Rw p w (mdl p l) := by
 refine ⟨by unfold mdl; rw [List.length_map]; exact h, fun x hx => ?_, fun x hx => ?_⟩
 ·obtain ⟨y, _, rfl⟩ := List.mem_map.mp hx; exact Int.emod_nonneg _ (by lia)
 ·obtain ⟨y, _, rfl⟩ := List.mem_map.mp hx; exact Int.emod_lt_of_pos _ hp
theorem md_id {l : List Int} (h : Rw p w l) : mdl p l = l := by
 unfold mdl
 exact (List.map_congr_left fun x hx => Int.emod_eq_of_lt (h.2 x hx) (h.3 x hx)).trans (List.map_id' l)
theorem md_ids (hl : ∀ l ∈ lines, Rw p w l) : lines.map (mdl p) = lines := (List.map_congr_left fun l h => md_id (hl l h)).trans (List.map_id' lines)
theorem numbersR_ok (hp : 0 < p) (hl : ∀ l ∈ lines, l.length = w) (hn : lines.length ≤ 1000) (j : Nat) (hj : j < w) (x : SV) (μ : Store) (hx : rd μ x = some (.lst (lines.map tu))) :
  fnV 3 b_numbers_at [.val (.int p), x, .val (.int j)] μ = .ok (.val (li (col (lines.map (mdl p)) j))) μ := by
 unfold b_numbers_at
 (try simp_all! only []); simp [hx]
 rw [compL_ofA _ (fun l : List Int => .int (g l j % p)) (by simp [hx])]
 ·rw [R.calm_ok, R.bind_ok, if_pos (by simp [szL]; lia)]
  (try simp_all! only []); simp [col, Function.comp_def, g_md]
 ·intro l hm
  have h := hl l hm
  refine ⟨_, rfl, ?_⟩
  have ha : atI (l.map T.int) (j : Int) = some (.int (g l j)) := by
   have := atg (r := l) (k := (j : Int)) (by lia) (by rw [h]; lia)
   simpa using this
  (try simp_all! only []); simp [ha, hp]
theorem numbers_ok (hp : 0 < p) (hl : ∀ l ∈ lines, Rw p w l) (hn : lines.length ≤ 1000) (j : Nat) (hj : j < w) (x : SV) (μ : Store) (hx : rd μ x = some (.lst (lines.map tu))) :
  fnV 3 b_numbers_at [.val (.int p), x, .val (.int j)] μ = .ok (.val (li (col lines j))) μ := by
 rw [numbersR_ok hp (fun l h => (hl l h).1) hn j hj x μ hx, md_ids hl]
theorem fRep_of (xs : List T) (k : Int) (h : -(2 ^ 63) ≤ k ∧ k < 2 ^ 63 ∧ xs.length * k.toNat ≤ szL) : fRep (.lst xs) (.int k) = some (.lst (List.replicate k.toNat xs).flatten) := if_pos h
theorem rep0 (n : Nat) (h : n ≤ 1000) : fRep (.lst [.int 0]) (.int (n : Int)) = some (li (List.replicate n 0)) := by
 have hn : (n : Int).toNat = n := by lia
 have hz : [T.int 0].length * (n : Int).toNat ≤ szL := by
  rw [hn]
  unfold szL
  simp
  lia
 rw [fRep_of _ _ ⟨by lia, by lia, hz⟩, hn, List.flatten_replicate_singleton, li, List.map_replicate]
theorem hs_ (w j : Nat) (hj : j < w) (μ : Store) : setAt (.cel μ.length) (.int (j : Int)) (.int 1) (μ ++ [(true, li (List.replicate w 0))]) = some (μ ++ [(true, li (eu w j))]) := by
  rw [setAt_at (ts := (List.replicate w 0).map T.int) st_get0 (by lia) (by rw [List.length_map, List.length_replicate]; lia), st_set0]
  have : (j : Int).toNat = j := by lia
  rw [this]
  unfold eu li
  rw [List.map_set]
theorem unit_x (f : T → T → Option T) (x y : Int) (z z2 : T) (μ : Store) (hr : f (.lst [.int 0]) (.int x) = some z) (hs : setAt (.cel μ.length) (.int y) (.int 1) (μ ++ [(true, z)]) = some (μ ++ [(true, z2)])) : fnV 3 (sSeq (sSet 2 (dCell (dRep f [(dC (.int 0))] (dVar 0))))
 (sSeq (sSetItem 2 (dVar 1) (dC (.int 1)))
 (sRet (dVar 2)))) [.val (.int x), .val (.int y)] μ = .ok (.val z2) μ := by
 simp [hr, hs]
theorem unit_ok (j : Nat) (hj : j < w) (hw : w ≤ 1000) (μ : Store) : fnV 3 b_unit [.val (.int w), .val (.int j)] μ = .ok (.val (li (eu w j))) μ :=
 unit_x fRep w j _ _ μ (rep0 w hw) (hs_ w j hj μ)
theorem rep_step (f : T → T → Option T) (i j : Nat) (e : Slots) (μ : Store) (k : Int) (t : T) (hs : slot e j = some (.val (.int k))) (h : f (.lst [.int 0]) (.int k) = some t) : sSet i (dCell (dRep f [dC (.int 0)] (dVar j))) e μ = .nx (e.set i (some (.cel μ.length))) (μ ++ [(true, t)]) := by
 (try simp_all! only []); simp [hs, h]
theorem rows_ok {raw : List (List Int)} (hP : IsPr p) (hl : ∀ l ∈ raw, l.length = w) (hraw : raw.map (mdl p) = lines) (hw : Rw p w ws) (hn : lines.length ≤ 200) (hw2 : w ≤ 100) (x : SV) (μ : Store) (hx : ∀ l, rd (μ ++ l) x = some (.lst (raw.map tu))) (same : Store → Prop) (hsame : ∀ μ', same μ') (x4 x6 x7 x8 x9 x10 : Option SV) :
  ∃ y6, forL same (bName 6) (sAppend (dVar 5) (dBin fAdd (dBin fAdd (dCall (cal (fnV 3 b_numbers_at)) [(dVar 0), (dVar 2), (dVar 6)]) (dLst [(dBin fMod (dIdx (dVar 3) (dVar 6)) (dVar 0))])) (dCall (cal (fnV 3 b_unit)) [(dVar 1), (dVar 6)]))) (intsT 0 w)
   [some (.val (.int p)), some (.val (.int w)), some x, some (.val (tu ws)), x4, some (.cel μ.length), x6, x7, x8, x9, x10] (μ ++ [(true, .lst [])]) =
   .nx [some (.val (.int p)), some (.val (.int w)), some x, some (.val (tu ws)), x4, some (.cel μ.length), y6, x7, x8, x9, x10] (μ ++ [(true, .lst (((List.range w).map fun j => aug w lines ws j).map li))]) := by
 have hb := hP.pos
 have hp0 : 0 < p := Int.lt_of_lt_of_le (by decide) hb.1
 have hrl : raw.length = lines.length := by rw [← hraw, List.length_map]
 obtain ⟨e', μ', h1, y6, h2, h3⟩ := forL_nx (same := same) (b := bName 6) (body := sAppend (dVar 5) (dBin fAdd (dBin fAdd (dCall (cal (fnV 3 b_numbers_at)) [(dVar 0), (dVar 2), (dVar 6)]) (dLst [(dBin fMod (dIdx (dVar 3) (dVar 6)) (dVar 0))])) (dCall (cal (fnV 3 b_unit)) [(dVar 1), (dVar 6)]))) (ts := intsT 0 w)
  (e := [some (.val (.int p)), some (.val (.int w)), some x, some (.val (tu ws)), x4, some (.cel μ.length), x6, x7, x8, x9, x10]) (μ := μ ++ [(true, .lst [])])
  (fun i e μ' => ∃ y6, e = [some (.val (.int p)), some (.val (.int w)), some x, some (.val (tu ws)), x4, some (.cel μ.length), y6, x7, x8, x9, x10] ∧ μ' = μ ++ [(true, .lst (((List.range i).map fun j => aug w lines ws j).map li))])
  (fun i e μ' _ => hsame μ') (fun i t e μ' ht hX11_ => by
   obtain ⟨y6, he, hμ⟩ := hX11_
   subst he hμ
   obtain ⟨hi, rfl⟩ := intsT_at ht
   have e0 : (0 : Int) + (i : Int) = (i : Int) := by lia
   rw [e0]
   generalize hc : (true, T.lst (((List.range i).map fun j => aug w lines ws j).map li)) = c
   have hnum := numbersR_ok (p := p) (w := w) (by first | exact hp0 | exact Int.ne_of_gt hp0 | exact Int.le_of_lt hp0 | lia) hl (by first | exact hp0 | exact Int.ne_of_gt hp0 | exact Int.le_of_lt hp0 | lia) i (by first | exact hp0 | exact Int.ne_of_gt hp0 | exact Int.le_of_lt hp0 | lia) x (μ ++ [c]) (hx _)
   rw [hraw] at hnum
   have hun := unit_ok (w := w) i (by first | exact hp0 | exact Int.ne_of_gt hp0 | exact Int.le_of_lt hp0 | lia) (by first | exact hp0 | exact Int.ne_of_gt hp0 | exact Int.le_of_lt hp0 | lia) (μ ++ [c])
   have gb := hw.g0 (p := p) (by first | exact hp0 | exact Int.ne_of_gt hp0 | exact Int.le_of_lt hp0 | lia) i
   have ha : atI (ws.map T.int) (i : Int) = some (.int (g ws i)) := by
    have := atg (r := ws) (k := (i : Int)) (by first | exact hp0 | exact Int.ne_of_gt hp0 | exact Int.le_of_lt hp0 | lia) (by rw [hw.len]; lia)
    simpa using this
   have hmod : g ws i % p = g ws i := Int.emod_eq_of_lt gb.1 gb.2
   have a1 : fAdd (li (col lines i)) (.lst [.int (g ws i)]) = some (li (col lines i ++ [g ws i])) := by
    rw [fAdd_lst _ _ (by simp [col, szL]; lia)]; simp
   have a2 : fAdd (li (col lines i ++ [g ws i])) (li (eu w i)) = some (li (aug w lines ws i)) := by
    rw [fAdd_lst _ _ (by simp [col, szL, eu]; lia)]; simp [aug]
   have hls : lsts (.cel μ.length) (μ ++ [c]) = some () := by rw [← hc]; exact lsts_st0 _ _ _ _
   have hap : ∀ t, appendAt (.cel μ.length) t (μ ++ [c]) = some (μ ++ [(true, T.lst (((List.range i).map fun j => aug w lines ws j).map li ++ [t]))]) := fun t => by rw [← hc]; exact append_st0 _ _ _ _ (by simp [szL]; lia)
   refine ⟨_, _, _, bName_is _ _ _, ?_, some (.val (.int i)), rfl, rfl⟩
   simp only [hls, hap, sAppend_is, dCall_is, dArgs_cons, dArgs_nil, dVar_is, cal_is, dBin_is, dLst_is, dIdx_is, frzs_cons, frzs_nil, frz_val, List.set_cons_succ, List.set_cons_zero, slot_succ, slot_zero, R.lift_some, R.bind_ok, R.toS_ok, rd_val, ap2_some, Option.bind_some, idxS_tup, ha, Option.map_some, fMod_int _ _ hp0, hmod, hnum, hun, R.calm_ok, a1, a2]
   rw [List.range_succ, List.map_append, List.map_append]
   rfl) ⟨x6, rfl, rfl⟩
 refine ⟨y6, ?_⟩
 rw [h1, h2, h3, intsT_len]
end
end Fw.E
namespace Fw.E
open PySem Fw Fw.H
seal RS.goes
theorem cutL (r : List Int) (i : Int) (h0 : 0 ≤ i) (h1 : i ≤ r.length) : fCut (li r) (some i) none = some (li (r.drop i.toNat)) := by
 have e1 : sIx (r.map T.int).length 0 (some i) = i.toNat := by show (if i < 0 then _ else min i.toNat (r.map T.int).length) = _; rw [if_neg (by omega), List.length_map]; omega
 have e2 : sIx (r.map T.int).length (r.map T.int).length none = (r.map T.int).length := rfl
 show some (T.lst (cutT (r.map T.int) (some i) none)) = _
 unfold cutT
 rw [e1, e2, List.take_of_length_le (by simp)]
 simp
theorem atn {r : List Int} {k : Nat} (h : k < r.length) : atI (r.map T.int) (k : Int) = some (.int (g r k)) := by
 have := atg (r := r) (k := (k : Int)) (by omega) (by omega)
 simpa using this
section
variable {p : Int} {w : Nat} {lines : List (List Int)} {ws : List Int}
theorem mult_ok {L m : Nat} (hp : 0 < p) {ls : List Ld} (hn : (ls.map (·.1)).Nodup) (hk : ∀ q ∈ ls, q.1 < m) (rl : ∀ q ∈ ls, Rw p L q.2) (hmL : m < L) (hp1 : 1 < p) (same : Store → Prop) (hsame : ∀ μ', same μ') (μ : Store) (c : Bool × T) (x0 x1 x2 x3 x5 x6 x7 x8 x10 : Option SV) :
  ∃ y6 y10 ms, forL same (bTup [6, 10]) (sSetItem 9 (dVar 6) (dIdx (dVar 10) (dVar 4))) (itemsT (dk ls)) [x0, x1, x2, x3, some (.val (.int m)), x5, x6, x7, x8, some (.cel (μ.length + 1)), x10] (μ ++ [c, (true, li (List.replicate m 0))]) =
   .nx [x0, x1, x2, x3, some (.val (.int m)), x5, y6, x7, x8, some (.cel (μ.length + 1)), y10] (μ ++ [c, (true, li ms)]) ∧ Rw p m ms ∧ (∀ q ∈ ls, g ms q.1 = g q.2 m) ∧ ∀ j, (∀ q ∈ ls, q.1 ≠ j) → g ms j = 0 := by
 obtain ⟨e', μ', h1, y6, y10, ms, h2, h3, h4, h5, h6⟩ := forL_nx (same := same) (b := bTup [6, 10]) (body := sSetItem 9 (dVar 6) (dIdx (dVar 10) (dVar 4))) (ts := itemsT (dk ls))
  (e := [x0, x1, x2, x3, some (.val (.int m)), x5, x6, x7, x8, some (.cel (μ.length + 1)), x10]) (μ := μ ++ [c, (true, li (List.replicate m 0))])
  (fun i e μ' => ∃ y6 y10 ms, e = [x0, x1, x2, x3, some (.val (.int m)), x5, y6, x7, x8, some (.cel (μ.length + 1)), y10] ∧ μ' = μ ++ [c, (true, li ms)] ∧ Rw p m ms ∧ (∀ q ∈ ls.take i, g ms q.1 = g q.2 m) ∧ ∀ j, (∀ q ∈ ls.take i, q.1 ≠ j) → g ms j = 0)
  (fun i e μ' _ => hsame μ') (fun i t e μ' ht hX11_ => by
   obtain ⟨y6, y10, ms, he, hμ, hr, h5, h6⟩ := hX11_
   subst he hμ
   obtain ⟨q, hq, hi, rfl⟩ := items_get ht
   have hm : q ∈ ls := List.mem_of_getElem? hq
   have hkq := hk q hm
   have ha := atn (r := q.2) (k := m) (by rw [(rl q hm).len]; exact hmL)
   have gb := (rl q hm).g0 hp m
   have hset : setAt (.cel (μ.length + 1)) (.int (q.1 : Int)) (.int (g q.2 m)) (μ ++ [c, (true, li ms)]) = some (μ ++ [c, (true, li (ms.set q.1 (g q.2 m)))]) := by
    rw [setAt_at (ts := ms.map T.int) st_get1 (by omega) (by rw [List.length_map, hr.len]; omega), st_set1]
    have : (q.1 : Int).toNat = q.1 := by omega
    rw [this, ← List.map_set]
   have htk : ls.take (i + 1) = ls.take i ++ [q] := by rw [List.take_add_one, hq]; rfl
   have hne : ∀ q' ∈ ls.take i, q'.1 ≠ q.1 := fun q' hq' e => by
    have hd : ls = ls.take i ++ q :: ls.drop (i + 1) := by
     have : ls.drop i = q :: ls.drop (i + 1) := by
      rw [List.drop_eq_getElem_cons hi]
      congr 1
      rw [List.getElem?_eq_getElem hi] at hq
      exact Option.some.inj hq
     rw [← this, List.take_append_drop]
    rw [hd, List.map_append, List.nodup_append] at hn
    exact hn.2.2 q'.1 (List.mem_map.mpr ⟨q', hq', rfl⟩) q.1 (by simp) e
   have hlen : q.1 < ms.length := by rw [hr.len]; exact hkq
   refine ⟨_, _, _, bTup_pair _ _ _ _ _, ?_, some (.val (.int q.1)), some (.val (li q.2)), ms.set q.1 (g q.2 m), rfl, rfl, hr.set gb.1 gb.2, fun q' hq' => ?_, fun j hj => ?_⟩
   ·simp only [sSetItem_is, dIdx_is, dVar_is, List.set_cons_succ, List.set_cons_zero, slot_succ, slot_zero, R.lift_some, R.bind_ok, R.toS_ok, rd_val, Option.bind_some, idxS_lst, ha, Option.map_some, frz_val, hset]
   ·rw [g_set _ _ _ _ hlen]
    rw [htk] at hq'
    rcases List.mem_append.mp hq' with h | h
    ·rw [if_neg (hne q' h)]; exact h5 q' h
    ·simp at h; subst h; rw [if_pos rfl]
   ·rw [g_set _ _ _ _ hlen, if_neg (fun e => hj q (by rw [htk]; simp) e.symm)]
    exact h6 j fun q' hq' => hj q' (by rw [htk]; simp [hq'])) ⟨x6, x10, _, rfl, rfl, rw_zeros hp1 m, by simp, fun j _ => by
     by_cases hj : j < m
     ·rw [g_at _ _ (by simp [hj])]; simp
     ·simp [g, List.getD_eq_getElem?_getD, hj]⟩
 have hil : (itemsT (dk ls)).length = ls.length := by simp [itemsT, dk]
 rw [hil, List.take_length] at h5 h6
 exact ⟨y6, y10, ms, by rw [h1, h2, h3], h4, h5, h6⟩
end
end Fw.E
namespace Fw.E
open PySem Fw Fw.H
seal RS.goes
inductive Held (p : Int) (w : Nat) (lines : List (List Int)) (ws : List Int) (μ : Store) : RS → Prop where
 | turn (c : T) (tv : List Int) (h : Rw p w tv) (h1 : ∀ l ∈ lines, p ∣ dot l tv) (h2 : p ∣ dot ws tv - 1) : Held p w lines ws μ (.rt (.box [.inl (.str "turn"), .inl (tu tv)]) (μ ++ [(true, c)]))
 | sum (c : T) (ms : List Int) (h : Rw p lines.length ms) (h1 : ∀ j, j < w → p ∣ dot ms (col lines j) - g ws j) : Held p w lines ws μ (.rt (.box [.inl (.str "sum"), .inr (μ.length + 1)]) (μ ++ [(true, c), (true, li ms)]))
section
variable {p : Int} {w : Nat} {lines : List (List Int)} {ws : List Int}
theorem heldR_ok {raw : List (List Int)} (hP : IsPr p) (hrw : ∀ l ∈ raw, l.length = w) (hraw : raw.map (mdl p) = lines) (hw : Rw p w ws) (hn : lines.length ≤ 200) (hw2 : w ≤ 100) (x : SV) (μ : Store) (hx : ∀ l, rd (μ ++ l) x = some (.lst (raw.map tu))) :
  Held p w lines ws μ (b_held (starts 11 [.val (.int p), .val (.int w), x, .val (tu ws)]) μ) := by
 have hb := hP.pos
 have hp0 : 0 < p := Int.lt_of_lt_of_le (by decide) hb.1
 have hl : ∀ l ∈ lines, Rw p w l := fun l h => by
  rw [← hraw] at h
  obtain ⟨r, hr, rfl⟩ := List.mem_map.mp h
  exact md_rw hp0 (hrw r hr)
 have hx0 : rd μ x = some (.lst (raw.map tu)) := by simpa using hx []
 have hlen := lenS_of hx0
 rw [List.length_map, show raw.length = lines.length by rw [← hraw, List.length_map]] at hlen
 unfold b_held
 simp only [starts_is, sSeq_is, sSet_is, dLen_is, dVar_is, List.map_cons, List.map_nil, List.length_cons, List.length_nil, List.cons_append, List.nil_append, Nat.reduceAdd, Nat.reduceSub, List.replicate_succ, List.replicate_zero, slot_succ, slot_zero, R.lift_some, R.bind_ok, R.toS_ok, hlen, Option.map_some, List.set_cons_succ, List.set_cons_zero, RS.seq_nx, dCell_is, dLst_is, dArgs_nil, frzs_nil, toCell_val, sFor_is, iRange1_is, rd_val, Option.bind_some, asInt_int, rngOk_of (show (0 : Int) ≤ (w : Int) by lia) (show (w : Int) ≤ 1000000 by lia), if_true, Int.toNat_natCast]
 obtain ⟨y6, h1⟩ := rows_ok hP hrw hraw hw hn hw2 x μ hx (fun _ => True) (fun _ => trivial) (some (.val (.int lines.length))) none none none none none
 rw [h1, RS.seq_nx]
 clear h1
 have hrows : ∀ r ∈ (List.range w).map fun j => aug w lines ws j, Rw p (lines.length + 1 + w) r := fun r hr => by
  obtain ⟨j, _, rfl⟩ := List.mem_map.mp hr
  exact aug_rw (by first | exact hp0 | exact Int.ne_of_gt hp0 | exact Int.le_of_lt hp0 | lia) hl hw j
 obtain ⟨ls, ns, h2, E, _⟩ := eased_ok (m := lines.length) hP (L := lines.length + 1 + w) (by first | exact hp0 | exact Int.ne_of_gt hp0 | exact Int.le_of_lt hp0 | lia) (by first | exact hp0 | exact Int.ne_of_gt hp0 | exact Int.le_of_lt hp0 | lia) ((List.range w).map fun j => aug w lines ws j) hrows (by simp; lia) (.cel μ.length) (μ ++ [(true, .lst (((List.range w).map fun j => aug w lines ws j).map li))]) (fun l => by simp)
 generalize hc : T.lst (((List.range w).map fun j => aug w lines ws j).map li) = c at h2 ⊢
 (try simp_all! only []); simp only [sSeq_is, sSet_is, dVar_is, dCall_is, dArgs_cons, dArgs_nil, cal_is, List.set_cons_succ, List.set_cons_zero, slot_succ, slot_zero, R.lift_some, R.bind_ok, R.toS_ok, h2, R.calm_ok, RS.seq_nx, sFor_is, iSeq_is, dIdx_is, dC_is, rd_val, Option.bind_some, idxS_tup, atI_one, Option.map_some, seqItems_lst]
 refine forL_inv (P := fun r => Held p w lines ws μ (r.seq (sSeq (sSet 9 (dCell (dRep fRep [dC (.int 0)] (dVar 4))))
  (sSeq (sFor (iItems (dIdx (dVar 7) (dC (.int 0)))) (bTup [6, 10]) (sSetItem 9 (dVar 6) (dIdx (dVar 10) (dVar 4)))) (sRet (dBox [dC (.str "sum"), dVar 9]))))))
  (fun i e μ' => ∃ y8, e = [some (.val (.int p)), some (.val (.int w)), some x, some (.val (tu ws)), some (.val (.int lines.length)), some (.cel μ.length), y6, some (.val (.tup [.dct (dk ls), .lst (ns.map li)])), y8, none, none] ∧ μ' = μ ++ [(true, c)] ∧ ∀ r ∈ ns.take i, g r lines.length = 0)
  ?_ ?_ ?_ ⟨none, rfl, rfl, by simp⟩
 ·intro i e μ' _; trivial
 ·rintro i t e μ' ht ⟨y8, rfl, rfl, hz⟩
  rw [List.getElem?_map] at ht
  obtain ⟨r, hr, rfl⟩ := Option.map_eq_some_iff.mp ht
  have hm : r ∈ ns := List.mem_of_getElem? hr
  have hR := E.rn r hm
  have ha := atn (r := r) (k := lines.length) (by rw [hR.len]; lia)
  refine ⟨_, bName_is _ _ _, ?_⟩
  by_cases e0 : g r lines.length = 0
  ·(try simp_all! only []); simp [ha, e0]
   intro r' hr'
   rw [List.take_add_one, hr] at hr'
   rcases List.mem_append.mp hr' with h | h
   ·exact hz r' h
   ·simp at h; subst h; exact e0
  ·have gb := hR.g0 (p := p) (by first | exact hp0 | exact Int.ne_of_gt hp0 | exact Int.le_of_lt hp0 | lia) lines.length
   obtain ⟨y, ho, y0, y1, yz⟩ := over_ok hP 1 (g r lines.length) (μ ++ [(true, c)]) (by rw [Int.emod_eq_of_lt gb.1 gb.2]; exact e0)
   have hR2 : Rw p w (r.drop (lines.length + 1)) := by
    have := hR.drop (k := lines.length + 1)
    rwa [show lines.length + 1 + w - (lines.length + 1) = w by lia] at this
   have ht2 := times_ok (p := p) (L := w) (by first | exact hp0 | exact Int.ne_of_gt hp0 | exact Int.le_of_lt hp0 | lia) (by first | exact hp0 | exact Int.ne_of_gt hp0 | exact Int.le_of_lt hp0 | lia) y (r.drop (lines.length + 1)) (μ ++ [(true, c)]) hR2 (by first | exact hp0 | exact Int.ne_of_gt hp0 | exact Int.le_of_lt hp0 | lia)
   have hcut := cutL r ((lines.length : Int) + 1) (by first | exact hp0 | exact Int.ne_of_gt hp0 | exact Int.le_of_lt hp0 | lia) (by rw [hR.len]; lia)
   rw [show ((lines.length : Int) + 1).toNat = lines.length + 1 by lia] at hcut
   have e1 : (g r lines.length == 0) = false := by simpa using e0
   have tl := told (by first | exact hp0 | exact Int.ne_of_gt hp0 | exact Int.le_of_lt hp0 | lia) E hm hw.len fun l h => (hl l h).len
   obtain ⟨t, hts⟩ : ∃ t, g r lines.length - dot ws (r.drop (lines.length + 1)) = p * t := tl.2
   obtain ⟨s, hs⟩ : ∃ s, y * g r lines.length - 1 = p * s := Int.dvd_of_emod_eq_zero yz
   have hheld : Held p w lines ws μ (.rt (.box [.inl (.str "turn"), .inl (tu (tm p y (r.drop (lines.length + 1))))]) (μ ++ [(true, c)])) := by
    refine .turn c _ (tm_rw (by first | exact hp0 | exact Int.ne_of_gt hp0 | exact Int.le_of_lt hp0 | lia) y hR2.len) (fun l h => ?_) ?_
    ·obtain ⟨u, hu⟩ := tm_dot p y (r.drop (lines.length + 1)) l
     obtain ⟨v, hv⟩ := tl.1 l h
     rw [hu, hv]
     exact ⟨y * v + u, by grind⟩
    ·obtain ⟨u, hu⟩ := tm_dot p y (r.drop (lines.length + 1)) ws
     rw [hu]
     exact ⟨s - y * t + u, by grind⟩
   have hb2 : fNe (.int (g r lines.length)) (.int 0) = some (.bl true) := by rw [fNe_int, e1]; rfl
   have goal : ∀ (e : Slots), slot e 0 = some (.val (.int p)) → slot e 4 = some (.val (.int lines.length)) → slot e 8 = some (.val (li r)) →
     sIf (dBin fNe (dIdx (dVar 8) (dVar 4)) (dC (.int 0))) (sRet (dBox [(dC (.str "turn")), (dUn fTuple (dCall (cal (fnV 3 b_times)) [(dVar 0), (dCall (cal (fnV 5 b_over)) [(dVar 0), (dC (.int 1)), (dIdx (dVar 8) (dVar 4))]), (dCut (dVar 8) (some (dBin fAdd (dVar 4) (dC (.int 1)))) none)]))])) sNil e (μ ++ [(true, c)]) =
     .rt (.box [.inl (.str "turn"), .inl (tu (tm p y (r.drop (lines.length + 1))))]) (μ ++ [(true, c)]) := fun e q0 q4 q8 => by
    (try simp_all! only []); simp only [sIf_is, dBin_is, dIdx_is, dVar_is, dC_is, q0, q4, q8, R.lift_some, R.bind_ok, R.toS_ok, rd_val, Option.bind_some, idxS_lst, ha, Option.map_some, ap2_some, hb2, asB_bl, if_true, sRet_is, dBox_is, dArgs_cons, dArgs_nil, dUn_is, dCall_is, cal_is, ho, R.calm_ok, dCut_is, dOpt_some, dOpt_none, fAdd_int, asInt_int, ap1_some, hcut, ht2, fTuple_lst, boxed]
   rw [goal _ rfl rfl rfl, goes_rt]
   exact hheld
 ·rintro e μ' ⟨y8, rfl, rfl, hz⟩
  rw [List.length_map, List.take_length] at hz
  rw [RS.seq_nx, sSeq_is, rep_step fRep 9 4 _ _ (lines.length : Int) _ rfl (rep0 lines.length (by first | exact hp0 | exact Int.ne_of_gt hp0 | exact Int.le_of_lt hp0 | lia)), RS.seq_nx]
  obtain ⟨z6, z10, ms, h3, h4, h5, h6⟩ := mult_ok (p := p) (L := lines.length + 1 + w) (m := lines.length) (by first | exact hp0 | exact Int.ne_of_gt hp0 | exact Int.le_of_lt hp0 | lia) E.nd E.key E.rl (by first | exact hp0 | exact Int.ne_of_gt hp0 | exact Int.le_of_lt hp0 | lia) (by first | exact hp0 | exact Int.ne_of_gt hp0 | exact Int.le_of_lt hp0 | lia) (fun _ => True) (fun _ => trivial) μ (true, c) (some (.val (.int p))) (some (.val (.int w))) (some x) (some (.val (tu ws))) (some (.cel μ.length)) y6 (some (.val (.tup [.dct (dk ls), .lst (ns.map li)]))) y8 none
  have hlen2 : (μ ++ [(true, c)]).length = μ.length + 1 := by simp
  have hap : μ ++ [(true, c)] ++ [(true, li (List.replicate lines.length 0))] = μ ++ [(true, c), (true, li (List.replicate lines.length 0))] := by simp
  rw [hlen2, hap]
  (try simp_all! only []); simp only [sSeq_is, sFor_is, iItems_is, dIdx_is, dVar_is, dC_is, List.set_cons_succ, List.set_cons_zero, slot_succ, slot_zero, R.lift_some, R.bind_ok, R.toS_ok, rd_val, Option.bind_some, idxS_tup, atI_zero, Option.map_some, asD_dct]
  rw [h3, RS.seq_nx]
  (try simp_all! only []); simp only [sRet_is, dBox_is, dArgs_cons, dArgs_nil, dC_is, dVar_is, slot_succ, slot_zero, R.lift_some, R.bind_ok, R.toS_ok, boxed, Option.map_some]
  exact .sum c ms h4 fun j hj => summed (by first | exact hp0 | exact Int.ne_of_gt hp0 | exact Int.le_of_lt hp0 | lia) E hz h4.len h5 h6 j hj
theorem held_ok (hP : IsPr p) (hl : ∀ l ∈ lines, Rw p w l) (hw : Rw p w ws) (hn : lines.length ≤ 100) (hw2 : w ≤ 100) (x : SV) (μ : Store) (hx : ∀ l, rd (μ ++ l) x = some (.lst (lines.map tu))) :
  Held p w lines ws μ (b_held (starts 11 [.val (.int p), .val (.int w), x, .val (tu ws)]) μ) := heldR_ok hP (fun l h => (hl l h).1) (md_ids hl) hw (by lia) hw2 x μ hx
end
end Fw.E
namespace Fw.E
open PySem Fw Fw.H
noncomputable def less (n : Int) (v l : List Int) : List Int := (v.zip l).map fun q => q.1 - n * q.2
theorem less_dot (n : Int) : ∀ (v l t : List Int), v.length = l.length → dot (less n v l) t = dot v t - n * dot l t
 | [], l, t, h => by cases l with
  | nil => simp [less]
  | cons x l => simp at h
 | a :: v, [], t, h => by simp at h
 | a :: v, b :: l, [], h => by simp [less]
 | a :: v, b :: l, c :: t, h => by
  have e : less n (a :: v) (b :: l) = (a - n * b) :: less n v l := rfl
  rw [e, dot_cons, dot_cons, dot_cons, less_dot n v l t (by simpa using h)]
  grind
theorem less_g (n : Int) : ∀ (v l : List Int) (j : Nat), v.length = l.length → g (less n v l) j = g v j - n * g l j
 | [], l, j, h => by cases l with
  | nil => simp [less, g]
  | cons x l => simp at h
 | a :: v, [], j, h => by simp at h
 | a :: v, b :: l, 0, h => by simp [less, g]
 | a :: v, b :: l, j + 1, h => by
  have e : less n (a :: v) (b :: l) = (a - n * b) :: less n v l := rfl
  rw [e, g_succ, g_succ, g_succ]
  exact less_g n v l j (by simpa using h)
theorem all_dvd (p : Int) : ∀ (v t : List Int), (∀ j, j < v.length → p ∣ g v j) → p ∣ dot v t
 | [], t, _ => ⟨0, by simp⟩
 | a :: v, [], _ => ⟨0, by simp⟩
 | a :: v, b :: t, h => by
  rw [dot_cons]
  have h0 := h 0 (by simp)
  rw [g_zero] at h0
  obtain ⟨s, hs⟩ := h0
  obtain ⟨u, hu⟩ := all_dvd p v t fun j hj => by have := h (j + 1) (by simp; lia); rwa [g_succ] at this
  exact ⟨s * b + u, by rw [hs, hu]; grind⟩
theorem combined (p : Int) (w : Nat) (t : List Int) : ∀ (lines : List (List Int)) (ms v : List Int), ms.length = lines.length → (∀ l ∈ lines, l.length = w) → v.length = w → (∀ j, j < w → p ∣ dot ms (col lines j) - g v j) → (∀ l ∈ lines, p ∣ dot l t) → p ∣ dot v t
 | [], ms, v, _, _, hv, h, _ => all_dvd p v t fun j hj => by
  obtain ⟨s, hs⟩ := h j (by lia)
  rw [show col ([] : List (List Int)) j = [] from rfl, dot_nil2] at hs
  exact ⟨-s, by rw [Int.mul_neg]; lia⟩
 | l :: lines, [], v, h, _, _, _, _ => by simp at h
 | l :: lines, m :: ms, v, hm, hl, hv, h, ht => by
  have hl0 := hl l (by simp)
  have ih := combined p w t lines ms (less m v l) (by simpa using hm) (fun l' h' => hl l' (by simp [h'])) (by simp [less, hv, hl0]) (fun j hj => by
   obtain ⟨s, hs⟩ := h j hj
   rw [show col (l :: lines) j = g l j :: col lines j from rfl, dot_cons] at hs
   rw [less_g _ _ _ _ (by lia)]
   exact ⟨s, by grind⟩) fun l' h' => ht l' (by simp [h'])
  rw [less_dot _ _ _ _ (by lia)] at ih
  obtain ⟨s, hs⟩ := ih
  obtain ⟨u, hu⟩ := ht l (by simp)
  exact ⟨s + m * u, by grind⟩
theorem sum_dot : ∀ (xs ys : List Int) (n : Nat), xs.length = n → ys.length = n → ((List.range n).map fun i => g xs i * g ys i).sum = dot xs ys
 | [], ys, n, h, _ => by simp at h; subst h; simp
 | x :: xs, [], n, h, h' => by simp at h h'; lia
 | x :: xs, y :: ys, 0, h, _ => by simp at h
 | x :: xs, y :: ys, n + 1, h, h' => by
  rw [List.range_succ_eq_map, List.map_cons, List.map_map, List.sum_cons, dot_cons, g_zero, g_zero]
  have e : ((fun i => g (x :: xs) i * g (y :: ys) i) ∘ Nat.succ) = fun i => g xs i * g ys i := by funext i; show g (x :: xs) (i + 1) * g (y :: ys) (i + 1) = _; rw [g_succ, g_succ]
  rw [e, sum_dot xs ys n (by simpa using h) (by simpa using h')]
noncomputable def mix (p : Int) (w : Nat) (lines : List (List Int)) (ms : List Int) : List Int := (List.range w).map fun j => dot ms (col lines j) % p
theorem mix_rw {p : Int} (hp : 0 < p) (w : Nat) (lines : List (List Int)) (ms : List Int) : Rw p w (mix p w lines ms) := by
 refine ⟨by simp [mix], fun x hx => ?_, fun x hx => ?_⟩
 ·obtain ⟨j, _, rfl⟩ := List.mem_map.mp hx
  exact Int.emod_nonneg _ (by lia)
 ·obtain ⟨j, _, rfl⟩ := List.mem_map.mp hx
  exact Int.emod_lt_of_pos _ hp
theorem rw_ext {p : Int} {w : Nat} {a b : List Int} (ha : Rw p w a) (hb : Rw p w b) (h : ∀ j, j < w → g a j = g b j) : a = b := by
 refine List.ext_getElem (by rw [ha.len, hb.len]) fun i h1 h2 => ?_
 have := h i (by rw [← ha.len]; exact h1)
 rwa [g_at a i h1, g_at b i h2] at this
theorem irange_eq (n : Nat) : irange 0 n = (List.range n).map fun (i : Nat) => (i : Int) := by simp [irange]
noncomputable def b_mixed : DS :=
 (sSeq (sSet 4 (dCell (dLst [])))
 (sSeq (sFor (iRange1 (dVar 1)) (bName 5) (sAppend (dVar 4) (dBin fMod (dUn fSum (dComp (iRange1 (dLen (dVar 2))) [none, some 3, some 5, some 2] (bName 0) (dC (.bl true)) (dBin fMulA (dIdx (dVar 1) (dVar 0)) (dIdx (dIdx (dVar 3) (dVar 0)) (dVar 2))))) (dVar 0))))
 (sRet (dUn fTuple (dVar 4)))))
theorem mixed_ok {p : Int} {w : Nat} {lines : List (List Int)} {ms : List Int} (hp : 0 < p) (hp2 : p < 1000000) (hl : ∀ l ∈ lines, Rw p w l) (hm : Rw p lines.length ms) (hn : lines.length ≤ 100) (hw2 : w ≤ 100) (x y : SV) (μ : Store) (hx : ∀ l, rd (μ ++ l) x = some (.lst (lines.map tu))) (hy : ∀ l, rd (μ ++ l) y = some (li ms)) :
  fnV 6 b_mixed [.val (.int p), .val (.int w), x, y] μ = .ok (.val (tu (mix p w lines ms))) μ := by
 unfold b_mixed
 simp (disch := lia)
 refine forL_inv (P := fun r => RS.endV μ.length (r.seq (sRet (dUn fTuple (dVar 4)))) = R.ok (SV.val (tu (mix p w lines ms))) μ)
  (fun i e μ' => ∃ x5, e = [some (.val (.int p)), some (.val (.int w)), some x, some y, some (.cel μ.length), x5] ∧ μ' = μ ++ [(true, li ((List.range i).map fun j => dot ms (col lines j) % p))]) (fun _ _ _ _ => trivial) ?_ ?_ ⟨none, rfl, rfl⟩
 ·rintro i t e μ' ht ⟨x5, rfl, rfl⟩
  obtain ⟨hi, rfl⟩ := intsT_at ht
  have e0 : (0 : Int) + (i : Int) = (i : Int) := by lia
  rw [e0]
  refine ⟨_, bName_is _ _ _, ?_⟩
  generalize hc : (true, li ((List.range i).map fun j => dot ms (col lines j) % p)) = c
  have hlen := lenS_of (hx [c])
  rw [List.length_map] at hlen
  have hls : lsts (.cel μ.length) (μ ++ [c]) = some () := by rw [← hc]; exact lsts_st0 _ _ _ _
  have hap : ∀ t, appendAt (.cel μ.length) t (μ ++ [c]) = some (μ ++ [(true, T.lst (((List.range i).map fun j => dot ms (col lines j) % p).map T.int ++ [t]))]) := fun t => by rw [← hc]; exact append_st0 _ _ _ _ (by simp [szL]; lia)
  have hcomp : dComp (iRange1 (dLen (dVar 2))) [none, some 3, some 5, some 2] (bName 0) (dC (.bl true)) (dBin fMulA (dIdx (dVar 1) (dVar 0)) (dIdx (dIdx (dVar 3) (dVar 0)) (dVar 2))) [some (.val (.int p)), some (.val (.int w)), some x, some y, some (.cel μ.length), some (.val (.int i))] (μ ++ [c]) = .ok (.val (.lst ((irange 0 lines.length).map fun k => T.int (g ms k.toNat * g (col lines i) k.toNat)))) (μ ++ [c]) := by
   simp (disch := lia) [hlen]
   rw [intsT_eq, compL_all _ trivial]
   ·rw [R.calm_ok, R.bind_ok, if_pos (by simp [szL]; lia)]
   ·intro k hk
    obtain ⟨k0, k1⟩ := mem_irange.mp hk
    refine ⟨_, rfl, ?_⟩
    have hkl : k.toNat < lines.length := by lia
    have a1 : idxS (μ ++ [c]) y (.int k) = some (.val (.int (g ms k.toNat))) := by
     rw [idxS_of (hy [c]), atg k0 (by rw [hm.len]; lia)]; rfl
    have a2 : idxS (μ ++ [c]) x (.int k) = some (.val (tu lines[k.toNat])) := by
     rw [idxS_of (hx [c]), atI_map k0 (by lia)]; rfl
    have hR := hl lines[k.toNat] (List.getElem_mem hkl)
    have a3 := atn (r := lines[k.toNat]) (k := i) (by rw [hR.len]; lia)
    have gb := hm.g0 hp k.toNat
    have hmul : fMulA (.int (g ms k.toNat)) (.int (g lines[k.toNat] i)) = some (.int (g ms k.toNat * g lines[k.toNat] i)) := fMulA_l _ _ (by lia) (by lia)
    (try simp_all! only []); simp [a1, a2, a3, hmul, g_col k.toNat i hkl]
  simp only [sAppend_is, dVar_is, dBin_is, dUn_is, List.set_cons_succ, List.set_cons_zero, slot_succ, slot_zero, R.lift_some, R.bind_ok, R.toS_ok, hls, hcomp, rd_val, ap1_some, fSum_map, Option.map_some, ap2_some, fMod_int _ _ hp, frz_val, hap]
  rw [goes_nx]
  refine ⟨_, rfl, ?_⟩
  have es : ((irange 0 lines.length).map fun k => g ms k.toNat * g (col lines i) k.toNat).sum = dot ms (col lines i) := by
   rw [irange_eq, List.map_map, ← sum_dot ms (col lines i) lines.length hm.len (by simp [col])]
   rfl
  rw [es, List.range_succ, List.map_append]
  simp
 ·rintro e μ' ⟨x5, rfl, rfl⟩
  rw [intsT_len]
  (try simp_all! only []); simp [mix]
end Fw.E
namespace Fw.E
open PySem Fw Fw.H
noncomputable def allv (p : Int) : Nat → List (List Int)
 | 0 => [[]]
 | n + 1 => (allv p n).flatMap fun s => (irange 0 p.toNat).map fun a => s ++ [a]
theorem mem_irange0 {n : Nat} {x : Int} : x ∈ irange 0 n ↔ 0 ≤ x ∧ x < n := by
 rw [irange_eq, List.mem_map]
 constructor
 ·rintro ⟨i, hi, rfl⟩; have := List.mem_range.mp hi; omega
 ·rintro ⟨h0, h1⟩; exact ⟨x.toNat, List.mem_range.mpr (by omega), by omega⟩
theorem nodup_irange0 (n : Nat) : (irange 0 n).Nodup := by
 rw [irange_eq]
 unfold List.Nodup
 rw [List.pairwise_map]
 exact List.Pairwise.imp (fun {a b} h q => h (by omega)) (List.nodup_range (n := n))
theorem Rw.snoc {p : Int} {n : Nat} {r : List Int} {a : Int} (h : Rw p n r) (h0 : 0 ≤ a) (h1 : a < p) : Rw p (n + 1) (r ++ [a]) :=
 Rw.append h (k := 1) ⟨rfl, by simp; exact h0, by simp; exact h1⟩
theorem mem_allv {p : Int} (hp : 0 < p) : ∀ {n : Nat} {x : List Int}, x ∈ allv p n ↔ Rw p n x
 | 0, x => by
  simp only [allv, List.mem_singleton]
  constructor
  ·rintro rfl; exact ⟨rfl, by simp, by simp⟩
  ·intro h; exact List.length_eq_zero_iff.mp h.1
 | n + 1, x => by
  simp only [allv, List.mem_flatMap, List.mem_map]
  constructor
  ·rintro ⟨s, hs, a, ha, rfl⟩
   have ha := mem_irange0.mp ha
   exact Rw.snoc ((mem_allv hp).mp hs) ha.1 (by omega)
  ·intro h
   have hl : n < x.length := by rw [h.1]; omega
   have e : x = x.take n ++ [g x n] := by
    have := split_at x n hl
    rw [List.drop_of_length_le (by rw [h.1]; omega)] at this
    exact this
   have gb := h.g0 hp n
   refine ⟨x.take n, (mem_allv hp).mpr ⟨by rw [List.length_take, h.1]; omega, fun y hy => h.2 y (List.mem_of_mem_take hy), fun y hy => h.3 y (List.mem_of_mem_take hy)⟩, g x n, mem_irange0.mpr ⟨gb.1, by omega⟩, e.symm⟩
theorem allv_len {p : Int} {n : Nat} {x : List Int} (hp : 0 < p) (h : x ∈ allv p n) : x.length = n := ((mem_allv hp).mp h).1
theorem nodup_allv {p : Int} (hp : 0 < p) : ∀ n, (allv p n).Nodup
 | 0 => by simp [allv]
 | n + 1 => by
  unfold allv List.Nodup
  rw [List.pairwise_flatMap]
  refine ⟨fun s hs => ?_, ?_⟩
  ·rw [List.pairwise_map]
   exact List.Pairwise.imp (fun {a b} h q => h (by simpa using q)) (nodup_irange0 p.toNat)
  ·have key : ∀ l : List (List Int), l.Nodup → (∀ s ∈ l, s.length = n) → List.Pairwise (fun a₁ a₂ => ∀ x ∈ (irange 0 p.toNat).map fun a => a₁ ++ [a], ∀ y ∈ (irange 0 p.toNat).map fun a => a₂ ++ [a], x ≠ y) l := by
    intro l hn hl
    induction l with
    | nil => exact .nil
    | cons s l ih =>
     have hn' := List.nodup_cons.mp hn
     refine List.Pairwise.cons (fun s' hs' x hx y hy => ?_) (ih hn'.2 fun s hs => hl s (by simp [hs]))
     obtain ⟨a, _, rfl⟩ := List.mem_map.mp hx
     obtain ⟨b, _, rfl⟩ := List.mem_map.mp hy
     intro q
     have := (List.append_inj q (by rw [hl s (by simp), hl s' (by simp [hs'])])).1
     exact hn'.1 (this ▸ hs')
   exact key _ (nodup_allv hp n) fun s hs => allv_len hp hs
theorem allv_size (p : Int) : ∀ n, (allv p n).length = p.toNat ^ n
 | 0 => rfl
 | n + 1 => by
  have : ∀ l : List (List Int), (l.flatMap fun s => (irange 0 p.toNat).map fun a => s ++ [a]).length = l.length * p.toNat := by
   intro l
   induction l with
   | nil => simp
   | cons s l ih => rw [List.flatMap_cons, List.length_append, ih, List.length_map, irange_eq, List.length_map, List.length_range, List.length_cons, Nat.succ_mul]; omega
  rw [allv, this, allv_size p n, Nat.pow_succ]
theorem sub_back {p : Int} {w : Nat} {x t : List Int} (hp : 0 < p) (n : Int) (hx : Rw p w x) (ht : t.length = w) : sub p (-n) (sub p n x t) t = x := by
 have h1 := sub_rw (p := p) (L := w) hp n hx.1 ht
 refine rw_ext (sub_rw hp (-n) h1.1 ht) hx fun j hj => ?_
 rw [sub_g p (-n) _ _ _ (by rw [h1.1, ht]), sub_g p n _ _ _ (by rw [hx.1, ht])]
 have b := hx.g0 hp j
 have e : (g x j - n * g t j) % p - -n * g t j = (g x j - n * g t j) % p + n * g t j := by grind
 rw [e, Int.emod_add_emod, show g x j - n * g t j + n * g t j = g x j by omega, Int.emod_eq_of_lt b.1 b.2]
theorem moved {p : Int} {w : Nat} (hp : 0 < p) (n : Int) {t : List Int} (ht : t.length = w) : ((allv p w).map fun x => sub p n x t).Perm (allv p w) := by
 refine (List.perm_ext_iff_of_nodup ?_ (nodup_allv hp w)).mpr fun x => ?_
 ·unfold List.Nodup
  rw [List.pairwise_map]
  have key : ∀ l : List (List Int), l.Nodup → (∀ s ∈ l, Rw p w s) → List.Pairwise (fun a b => sub p n a t ≠ sub p n b t) l := by
   intro l hn hl
   induction l with
   | nil => exact .nil
   | cons s l ih =>
    have hn' := List.nodup_cons.mp hn
    refine List.Pairwise.cons (fun s' hs' q => ?_) (ih hn'.2 fun s hs => hl s (by simp [hs]))
    have : s = s' := by rw [← sub_back hp n (hl s (by simp)) ht, q, sub_back hp n (hl s' (by simp [hs'])) ht]
    exact hn'.1 (this ▸ hs')
  exact key _ (nodup_allv hp w) fun s hs => (mem_allv hp).mp hs
 ·rw [List.mem_map, mem_allv hp]
  constructor
  ·rintro ⟨y, hy, rfl⟩; exact sub_rw hp n ((mem_allv hp).mp hy).1 ht
  ·intro hx
   refine ⟨sub p (-n) x t, (mem_allv hp).mpr (sub_rw hp (-n) hx.1 ht), ?_⟩
   have := sub_back hp (-n) hx ht
   rw [Int.neg_neg] at this
   exact this
noncomputable def cnt (p : Int) (w : Nat) (P : List Int → Bool) : Nat := (allv p w).countP P
theorem cnt_moved {p : Int} {w : Nat} (hp : 0 < p) (n : Int) {t : List Int} (ht : t.length = w) (P Q : List Int → Bool) (h : ∀ x, Rw p w x → (P (sub p n x t) = true ↔ Q x = true)) : cnt p w P = cnt p w Q := by
 unfold cnt
 rw [← (moved hp n ht).countP_eq P, List.countP_map]
 exact List.countP_congr fun x hx => h x ((mem_allv hp).mp hx)
theorem cnt_congr {p : Int} {w : Nat} (hp : 0 < p) {P Q : List Int → Bool} (h : ∀ x, Rw p w x → (P x = true ↔ Q x = true)) : cnt p w P = cnt p w Q :=
 List.countP_congr fun x hx => h x ((mem_allv hp).mp hx)
theorem sum_const (k : Nat) (f : Nat → Nat) (c : Nat) (h : ∀ i, i < k → f i = c) : ((List.range k).map f).sum = k * c := by
 induction k with
 | zero => simp
 | succ k ih => rw [List.range_succ, List.map_append, List.sum_append, ih fun i hi => h i (by omega)]; simp [h k (by omega)]; rw [Nat.succ_mul]
theorem countP_parts {α : Type} (P : α → Bool) (v : α → Int) (m : Nat) : ∀ l : List α, (∀ x ∈ l, 0 ≤ v x ∧ v x < m) → l.countP P = (((List.range m).map fun (i : Nat) => l.countP fun x => P x && decide (v x = (i : Int))).sum)
 | [], _ => by rw [sum_const m _ 0 fun _ _ => List.countP_nil]; simp
 | x :: l, h => by
  have ih := countP_parts P v m l fun y hy => h y (by simp [hy])
  have hx := h x (by simp)
  have one : ∀ (k : Nat) (f : Nat → Nat) (i : Nat), i < k → (((List.range k).map fun j => f j + if j = i then 1 else 0).sum) = ((List.range k).map f).sum + 1 := by
   intro k f i hi
   induction k with
   | zero => omega
   | succ k ihk =>
    rw [List.range_succ, List.map_append, List.map_append, List.sum_append, List.sum_append]
    by_cases e : i = k
    ·subst e
     have : ((List.range i).map fun j => f j + if j = i then 1 else 0) = (List.range i).map f := List.map_congr_left fun j hj => by
      have := List.mem_range.mp hj
      rw [if_neg (by omega)]; rfl
     rw [this]; simp; omega
    ·rw [ihk (by omega)]; simp [show k ≠ i by omega]; omega
  rw [List.countP_cons, ih]
  by_cases hP : P x = true
  ·rw [if_pos hP, ← one m (fun (i : Nat) => l.countP fun x => P x && decide (v x = (i : Int))) (v x).toNat (by omega)]
   congr 1
   refine List.map_congr_left fun j hj => ?_
   rw [List.countP_cons]
   congr 1
   by_cases e : j = (v x).toNat
   ·rw [if_pos e, if_pos (by simp [hP]; omega)]
   ·rw [if_neg e, if_neg (by simp [hP]; omega)]
  ·rw [if_neg hP, Nat.add_zero]
   congr 1
   refine List.map_congr_left fun j hj => ?_
   rw [List.countP_cons, if_neg (by simp [hP]), Nat.add_zero]
noncomputable def sq (p : Int) (S : List (List Int)) (x : List Int) : Bool := S.all fun r => decide (p ∣ dot r x)
theorem sq_iff {p : Int} {S : List (List Int)} {x : List Int} : sq p S x = true ↔ ∀ r ∈ S, p ∣ dot r x := by unfold sq; simp
theorem sub_dvd {p n : Int} {x t r : List Int} (hl : x.length = t.length) : p ∣ dot r (sub p n x t) - (dot r x - n * dot r t) := by
 obtain ⟨k, hk⟩ := sub_dot p n x t r hl
 rw [hk]
 exact ⟨k, by grind⟩
theorem evenly {p : Int} {w : Nat} (hp : 0 < p) {r t : List Int} (ht : t.length = w) (hr : p ∣ dot r t - 1) (B : List Int → Bool) (hB : ∀ n x, Rw p w x → (B (sub p n x t) = B x)) (a b : Int) :
  cnt p w (fun x => B x && decide (p ∣ dot r x - a)) = cnt p w (fun x => B x && decide (p ∣ dot r x - b)) := by
 refine cnt_moved hp (b - a) ht _ _ fun x hx => ?_
 simp only [Bool.and_eq_true, decide_eq_true_eq, hB _ _ hx]
 have d := sub_dvd (p := p) (n := b - a) (r := r) (x := x) (t := t) (by rw [hx.1, ht])
 obtain ⟨u, hu⟩ := d
 obtain ⟨v, hv⟩ := hr
 have e : dot r (sub p (b - a) x t) - a = (dot r x - b) + p * (u - (b - a) * v) := by grind
 rw [e]
 exact and_congr_right fun _ => Int.dvd_add_left (Int.dvd_mul_right _ _)
theorem sq_moved {p n : Int} {w : Nat} {S : List (List Int)} {x t : List Int} (ht : t.length = w) (hs : ∀ q ∈ S, p ∣ dot q t) (hx : Rw p w x) : sq p S (sub p n x t) = sq p S x := by
 rw [Bool.eq_iff_iff, sq_iff, sq_iff]
 refine forall_congr' fun q => imp_congr_right fun hq => ?_
 have d := sub_dvd (p := p) (n := n) (r := q) (x := x) (t := t) (by rw [hx.1, ht])
 obtain ⟨u, hu⟩ := d
 obtain ⟨v, hv⟩ := hs q hq
 have e : dot q (sub p n x t) = dot q x + p * (u - n * v) := by grind
 rw [e]
 exact Int.dvd_add_left (Int.dvd_mul_right _ _)
theorem cnt_all {p : Int} {w : Nat} (hp : 0 < p) (B : List Int → Bool) (r : List Int) : cnt p w B = (((List.range p.toNat).map fun (i : Nat) => cnt p w fun x => B x && decide (p ∣ dot r x - (i : Int))).sum) := by
 unfold cnt
 rw [countP_parts B (fun x => dot r x % p) p.toNat (allv p w) fun x _ => ⟨Int.emod_nonneg _ (by omega), by have := Int.emod_lt_of_pos (dot r x) hp; omega⟩]
 congr 1
 refine List.map_congr_left fun i hi => ?_
 have hi := List.mem_range.mp hi
 refine List.countP_congr fun x _ => ?_
 simp only [Bool.and_eq_true, decide_eq_true_eq]
 refine and_congr_right fun _ => ?_
 constructor
 ·intro h
  exact ⟨dot r x / p, by have := Int.emod_def (dot r x) p; omega⟩
 ·rintro ⟨k, hk⟩
  have : dot r x = (i : Int) + p * k := by omega
  rw [this, Int.add_mul_emod_self_left, Int.emod_eq_of_lt (by omega) (by omega)]
theorem cnt_new {p : Int} {w : Nat} (hp : 0 < p) {S : List (List Int)} {r t : List Int} (ht : t.length = w) (hs : ∀ q ∈ S, p ∣ dot q t) (hr : p ∣ dot r t - 1) : cnt p w (sq p S) = p.toNat * cnt p w (sq p (r :: S)) := by
 rw [cnt_all hp (sq p S) r, sum_const p.toNat _ (cnt p w (sq p (r :: S))) fun i hi => ?_]
 rw [evenly hp ht hr (sq p S) (fun n x hx => sq_moved ht hs hx) (i : Int) 0]
 refine cnt_congr hp fun x _ => ?_
 rw [sq_iff, Bool.and_eq_true, sq_iff, decide_eq_true_eq, Int.sub_zero, List.forall_mem_cons]
 exact And.comm
theorem cnt_old {p : Int} {w : Nat} (hp : 0 < p) {S : List (List Int)} {r : List Int} (h : ∀ x, Rw p w x → (∀ q ∈ S, p ∣ dot q x) → p ∣ dot r x) : cnt p w (sq p (r :: S)) = cnt p w (sq p S) := by
 refine cnt_congr hp fun x hx => ?_
 rw [sq_iff, sq_iff, List.forall_mem_cons]
 exact ⟨fun q => q.2, fun q => ⟨h x hx q, q⟩⟩
theorem cnt_none (p : Int) (w : Nat) : cnt p w (sq p []) = p.toNat ^ w := by
 have e : sq p [] = fun _ => true := by funext x; rfl
 unfold cnt
 rw [e, List.countP_true, allv_size]
theorem cnt_tri {p : Int} {w : Nat} (hp : 0 < p) : ∀ ls : List Ld, (∀ q ∈ ls, q.1 < w ∧ q.2.length = w ∧ p ∣ g q.2 q.1 - 1) → ls.Pairwise (fun a b => p ∣ g b.2 a.1) → cnt p w (sq p (ls.map (·.2))) * p.toNat ^ ls.length = p.toNat ^ w
 | [], _, _ => by rw [List.map_nil, cnt_none]; simp
 | q :: ls, h, hd => by
  have ih := cnt_tri hp ls (fun q' hq => h q' (by simp [hq])) (List.pairwise_cons.mp hd).2
  have hq := h q (by simp)
  have := cnt_new (p := p) (w := w) hp (S := ls.map (·.2)) (r := q.2) (t := eu w q.1) (eu_len _ _) (fun r hr => by
   obtain ⟨b, hb, rfl⟩ := List.mem_map.mp hr
   rw [dot_comm, dot_eu _ _ _ hq.1]
   exact (List.pairwise_cons.mp hd).1 b hb) (by rw [dot_comm, dot_eu _ _ _ hq.1]; exact hq.2.2)
  rw [this] at ih
  rw [List.map_cons, List.length_cons, Nat.pow_succ, ← ih]
  generalize cnt p w _ = c
  generalize p.toNat = n
  grind
end Fw.E
namespace Fw.E
open PySem Fw Fw.H
theorem sum_or_turn {p : Int} {w : Nat} {lines : List (List Int)} {ws : List Int} (hP : IsPr p) (hl : ∀ l ∈ lines, Rw p w l) (hw : Rw p w ws) (hn : lines.length ≤ 100) (hw2 : w ≤ 100) :
  (∃ ms, Rw p lines.length ms ∧ ∀ j, j < w → p ∣ dot ms (col lines j) - g ws j) ∨ ∃ tv, Rw p w tv ∧ (∀ l ∈ lines, p ∣ dot l tv) ∧ p ∣ dot ws tv - 1 := by
 have h := held_ok hP hl hw hn hw2 (.val (.lst (lines.map tu))) [] fun l => rfl
 generalize b_held (starts 11 [.val (.int p), .val (.int w), .val (.lst (lines.map tu)), .val (tu ws)]) [] = r at h
 cases h with
 | turn c tv h h1 h2 => exact .inr ⟨tv, h, h1, h2⟩
 | sum c ms h h1 => exact .inl ⟨ms, h, h1⟩
noncomputable def cols (w : Nat) (lines : List (List Int)) : List (List Int) := (List.range w).map fun j => col lines j
theorem col_snoc (lines : List (List Int)) (l : List Int) (j : Nat) : col (lines ++ [l]) j = col lines j ++ [g l j] := by simp [col]
theorem col_len (lines : List (List Int)) (j : Nat) : (col lines j).length = lines.length := by simp [col]
theorem dot_snoc (c r : List Int) (a b : Int) (h : c.length = r.length) : dot (c ++ [a]) (r ++ [b]) = dot c r + a * b := by
 rw [dot_append _ _ _ _ h]; simp [dot]
theorem sq_snoc (p : Int) (S : List (List Int)) (r : List Int) : sq p (S ++ [r]) = sq p (r :: S) := by
 funext x
 rw [Bool.eq_iff_iff, sq_iff, sq_iff]
 simp only [List.mem_append, List.mem_singleton, List.mem_cons, List.not_mem_nil, or_false]
 exact ⟨fun h q hq => h q (hq.symm), fun h q hq => h q (hq.symm)⟩
theorem sum_ite {α : Type} (P : α → Bool) : ∀ l : List α, (l.map fun x => if P x = true then 1 else 0).sum = l.countP P
 | [] => rfl
 | x :: l => by
  rw [List.map_cons, List.sum_cons, sum_ite P l, List.countP_cons]
  omega
theorem mapc_g (c : Int) (l : List Int) (j : Nat) : g (l.map fun y => c * y) j = c * g l j := by
 unfold g
 rw [List.getD_eq_getElem?_getD, List.getD_eq_getElem?_getD, List.getElem?_map]
 cases l[j]? with
 | none => simp
 | some y => simp
theorem mapc_dot (c : Int) (u v : List Int) : dot (u.map fun y => c * y) v = c * dot u v := by
 induction u generalizing v with
 | nil => simp [dot]
 | cons a u ih => cases v with
  | nil => simp [dot]
  | cons b v => simp only [List.map_cons, dot, ih]; grind
theorem cnt_last {p : Int} {n : Nat} (hp : 0 < p) (P : List Int → Bool) (Q : List Int → Bool) (h : ∀ s a, Rw p n s → 0 ≤ a → a < p → (P (s ++ [a]) = true ↔ a = 0 ∧ Q s = true)) : cnt p (n + 1) P = cnt p n Q := by
 unfold cnt
 rw [allv, List.countP_flatMap, ← sum_ite Q]
 congr 1
 refine List.map_congr_left fun s hs => ?_
 have hs := (mem_allv hp).mp hs
 rw [Function.comp, List.countP_map]
 have hz : irange 0 p.toNat = 0 :: irange 1 (p.toNat - 1) := by
  obtain ⟨m, hm⟩ : ∃ m, p.toNat = m + 1 := ⟨p.toNat - 1, by omega⟩
  rw [hm, irange, List.range_succ_eq_map, List.map_cons, List.map_map, irange, Nat.add_sub_cancel]
  congr 1
  refine List.map_congr_left fun k _ => ?_
  simp only [Function.comp]; omega
 rw [hz, List.countP_cons]
 have h0 : List.countP (P ∘ fun a => s ++ [a]) (irange 1 (p.toNat - 1)) = 0 := by
  rw [List.countP_eq_zero]
  intro a ha
  have ha := mem_irange.mp ha
  intro q
  have := ((h s a hs (by omega) (by omega)).mp q).1
  omega
 rw [h0, Nat.zero_add, Function.comp]
 by_cases hq : Q s = true
 ·rw [if_pos hq, if_pos ((h s 0 hs (by omega) (by omega)).mpr ⟨rfl, hq⟩)]
 ·rw [if_neg hq, if_neg fun q => hq ((h s 0 hs (by omega) (by omega)).mp q).2]
theorem ranked {p : Int} {w : Nat} (hP : IsPr p) (hw2 : w ≤ 100) : ∀ (n : Nat) (lines : List (List Int)), lines.length = n → n ≤ 100 → (∀ l ∈ lines, Rw p w l) →
  ∃ r, cnt p w (sq p lines) * p.toNat ^ r = p.toNat ^ w ∧ cnt p n (sq p (cols w lines)) * p.toNat ^ r = p.toNat ^ n
 | 0, lines, hl, _, _ => by
  have e : lines = [] := List.length_eq_zero_iff.mp hl
  subst e
  have hp := hP.pos
  refine ⟨0, by rw [cnt_none]; simp, ?_⟩
  rw [Nat.pow_zero, Nat.mul_one, show (1 : Nat) = cnt p 0 (sq p []) by rw [cnt_none, Nat.pow_zero]]
  refine cnt_congr (by omega) fun x hx => ?_
  have : x = [] := List.length_eq_zero_iff.mp hx.1
  subst this
  rw [sq_iff, sq_iff]
  refine ⟨fun _ r hr => by simp at hr, fun _ r hr => ?_⟩
  obtain ⟨j, _, rfl⟩ := List.mem_map.mp hr
  simp [col, dot]
 | n + 1, lines, hl, hn, hR => by
  have hp := hP.pos
  obtain ⟨ls, l, rfl⟩ : ∃ ls l, lines = ls ++ [l] := ⟨lines.dropLast, lines.getLast (by intro e; subst e; simp at hl), (List.dropLast_concat_getLast _).symm⟩
  have hln : ls.length = n := by simp at hl; exact hl
  obtain ⟨r, h1, h2⟩ := ranked hP hw2 n ls hln (by omega) fun q hq => hR q (by simp [hq])
  have hRl := hR l (by simp)
  have hRs : ∀ q ∈ ls, Rw p w q := fun q hq => hR q (by simp [hq])
  have sqc : ∀ s a, s.length = n → ((sq p (cols w (ls ++ [l])) (s ++ [a]) = true) ↔ ∀ j, j < w → p ∣ dot (col ls j) s + g l j * a) := fun s a hs => by
   rw [sq_iff]
   constructor
   ·intro h j hj
    have := h _ (List.mem_map.mpr ⟨j, List.mem_range.mpr hj, rfl⟩)
    rw [col_snoc, dot_snoc _ _ _ _ (by rw [col_len, hln, hs])] at this
    exact this
   ·intro h q hq
    obtain ⟨j, hj, rfl⟩ := List.mem_map.mp hq
    rw [col_snoc, dot_snoc _ _ _ _ (by rw [col_len, hln, hs])]
    exact h j (List.mem_range.mp hj)
  have last : cnt p (n + 1) (sq p (eu (n + 1) n :: cols w (ls ++ [l]))) = cnt p n (sq p (cols w ls)) := by
   refine cnt_last (by omega) _ _ fun s a hs h0 h1 => ?_
   have e : (sq p (eu (n + 1) n :: cols w (ls ++ [l])) (s ++ [a]) = true) ↔ p ∣ a ∧ sq p (cols w (ls ++ [l])) (s ++ [a]) = true := by
    rw [sq_iff, sq_iff, List.forall_mem_cons, dot_eu _ _ _ (by omega)]
    have : g (s ++ [a]) n = a := by rw [g, List.getD_eq_getElem?_getD, List.getElem?_append_right (by rw [hs.1]; omega), hs.1]; simp
    rw [this]
   rw [e, sqc s a hs.1, sq_iff]
   constructor
   ·rintro ⟨ha, h⟩
    obtain ⟨k, hk⟩ := ha
    have a0 : a = 0 := by
     rcases Int.lt_trichotomy k 0 with z | z | z
     ·have : p * k ≤ p * (-1) := Int.mul_le_mul_of_nonneg_left (by omega) (by omega)
      omega
     ·subst z; omega
     ·have : p * 1 ≤ p * k := Int.mul_le_mul_of_nonneg_left (by omega) (by omega)
      omega
    subst a0
    refine ⟨rfl, fun q hq => ?_⟩
    obtain ⟨j, hj, rfl⟩ := List.mem_map.mp hq
    have := h j (List.mem_range.mp hj)
    rwa [Int.mul_zero, Int.add_zero] at this
   ·rintro ⟨rfl, h⟩
    refine ⟨Int.dvd_zero _, fun j hj => ?_⟩
    rw [Int.mul_zero, Int.add_zero]
    exact h _ (List.mem_map.mpr ⟨j, List.mem_range.mpr hj, rfl⟩)
  rw [sq_snoc]
  rcases sum_or_turn hP hRs hRl (by omega) hw2 with ⟨ms, hm, hs⟩ | ⟨tv, ht, hs, h1t⟩
  ·refine ⟨r, ?_, ?_⟩
   ·rw [cnt_old (by omega) fun x hx hq => combined p w x ls ms l (by rw [hm.1]) (fun q hq => (hRs q hq).1) hRl.1 hs hq]
    exact h1
   ·have := cnt_new (p := p) (w := n + 1) (by omega) (S := cols w (ls ++ [l])) (r := eu (n + 1) n) (t := (ms.map fun x => -x) ++ [1]) (by simp [hm.1, hln]) (fun q hq => by
     obtain ⟨j, hj, rfl⟩ := List.mem_map.mp hq
     have hj := List.mem_range.mp hj
     rw [col_snoc, dot_snoc _ _ _ _ (by rw [col_len, List.length_map, hm.1]), dot_comm, dot_neg]
     obtain ⟨k, hk⟩ := hs j hj
     exact ⟨-k, by grind⟩) (by
     rw [dot_eu _ _ _ (by omega)]
     have : g ((ms.map fun x => -x) ++ [1]) n = 1 := by rw [g, List.getD_eq_getElem?_getD, List.getElem?_append_right (by simp [hm.1, hln]), List.length_map, hm.1, hln]; simp
     rw [this]; exact ⟨0, by omega⟩)
    rw [this, last, Nat.pow_succ, ← h2]
    generalize cnt p n _ = c
    generalize p.toNat = m
    grind
  ·refine ⟨r + 1, ?_, ?_⟩
   ·rw [← h1, cnt_new (by omega) ht.1 hs h1t]
    generalize cnt p w _ = c
    generalize p.toNat = m
    grind
   ·have : cnt p (n + 1) (sq p (cols w (ls ++ [l]))) = cnt p n (sq p (cols w ls)) := by
     rw [← last]
     refine (cnt_old (by omega) fun x hx hq => ?_).symm
     rw [dot_eu _ _ _ (by omega)]
     have hl : n < x.length := by rw [hx.1]; omega
     have e : x = x.take n ++ [g x n] := by
      have := split_at x n hl
      rw [List.drop_of_length_le (by rw [hx.1]; omega)] at this
      exact this
     have hk := (sqc (x.take n) (g x n) (by rw [List.length_take, hx.1]; omega)).mp (by rw [← e, sq_iff]; exact hq)
     have comb := combined p w tv ls (x.take n) (l.map fun y => -(g x n) * y) (by rw [List.length_take, hx.1, hln]; omega) (fun q hq => (hRs q hq).1) (by rw [List.length_map]; exact hRl.1) (fun j hj => by
      have := hk j hj
      rw [dot_comm]
      rw [mapc_g]
      obtain ⟨k, hk⟩ := this
      exact ⟨k, by grind⟩) hs
     rw [mapc_dot] at comb
     obtain ⟨k, hk⟩ := comb
     obtain ⟨m, hm⟩ := h1t
     exact ⟨-k - g x n * m, by grind⟩
    rw [this, Nat.pow_succ p.toNat n, ← h2]
    generalize cnt p n _ = c
    generalize p.toNat = m
    grind
theorem rank_one {p : Int} {w c r r' : Nat} (hp : 2 ≤ p) (h : c * p.toNat ^ r = p.toNat ^ w) (h' : c * p.toNat ^ r' = p.toNat ^ w) : r = r' := by
 have hc : 0 < c := by
  rcases Nat.eq_zero_or_pos c with z | z
  ·subst z
   have : 0 < p.toNat ^ w := Nat.pow_pos (by omega)
   omega
  ·exact z
 exact (Nat.pow_right_inj (show 1 < p.toNat by omega)).mp (Nat.eq_of_mul_eq_mul_left hc (h.trans h'.symm))
theorem Easy.count {p : Int} {m : Nat} {ls : List Ld} {ns rows : List (List Int)} (hp : 2 ≤ p) (E : Easy p m m ls ns rows) : cnt p m (sq p rows) * p.toNat ^ ls.length = p.toNat ^ m := by
 rw [← cnt_tri (w := m) (by omega) ls (fun q hq => ⟨E.key q hq, (E.rl q hq).1, ⟨0, by rw [E.one q hq]; omega⟩⟩) ?_]
 ·congr 1
  refine cnt_congr (by omega) fun x hx => ?_
  rw [sq_iff, sq_iff]
  have := E.eq x
  have e1 : (∀ r ∈ rows, p ∣ dot r x) ↔ ∀ r ∈ rows, Z p x r := forall_congr' fun r => imp_congr_right fun _ => by rw [Z, dot_comm]
  rw [e1, this]
  constructor
  ·rintro ⟨h, _⟩ r hr
   obtain ⟨q, hq, rfl⟩ := List.mem_map.mp hr
   rw [dot_comm]; exact h q hq
  ·intro h
   refine ⟨fun q hq => ?_, fun r hr => ?_⟩
   ·have := h q.2 (List.mem_map.mpr ⟨q, hq, rfl⟩)
    rw [dot_comm] at this; exact this
   ·have : dot x r = 0 := dot_zero _ _ fun i => by
     by_cases hi : i < m
     ·rw [E.no r hr i hi, Int.mul_zero]
     ·have : g r i = 0 := by rw [g, List.getD_eq_getElem?_getD, List.getElem?_eq_none (by rw [(E.rn r hr).1]; omega)]; rfl
      rw [this, Int.mul_zero]
    rw [Z, this]; exact Int.dvd_zero _
 ·have key : ∀ l : List Ld, (∀ q ∈ l, q ∈ ls) → (l.map (·.1)).Nodup → l.Pairwise (fun a b => p ∣ g b.2 a.1) := by
   intro l hl hn
   induction l with
   | nil => exact .nil
   | cons q l ih =>
    have hn' := List.nodup_cons.mp (by simpa using hn : (q.1 :: l.map (·.1)).Nodup)
    refine List.Pairwise.cons (fun b hb => ?_) (ih (fun q' hq => hl q' (by simp [hq])) hn'.2)
    have hne : q.1 ≠ b.1 := fun e => hn'.1 (e ▸ List.mem_map.mpr ⟨b, hb, rfl⟩)
    rw [E.off b (hl b (by simp [hb])) q (hl q (by simp)) hne]
    exact Int.dvd_zero _
  exact key ls (fun _ h => h) E.nd
theorem leads_rank {p : Int} {w r : Nat} {lines : List (List Int)} {ls : List Ld} {ns : List (List Int)} (hP : IsPr p) (hw2 : w ≤ 100) (hn : lines.length ≤ 100) (hR : ∀ l ∈ lines, Rw p w l) (h : cnt p w (sq p lines) * p.toNat ^ r = p.toNat ^ w) (E : Easy p lines.length lines.length ls ns (cols w lines)) : ls.length = r := by
 have hp := hP.pos
 obtain ⟨r', h1, h2⟩ := ranked hP hw2 lines.length lines rfl hn hR
 have e1 := rank_one hp.1 h h1
 have e2 := rank_one hp.1 (E.count hp.1) h2
 omega
end Fw.E
namespace Fw.F
open PySem Fw Fw.H Fw.E
noncomputable abbrev Rows := List (Int × List Int)
noncomputable def rt (q : Int × List Int) : T := .tup [.int q.1, tu q.2]
noncomputable def tb (p : Int) (w : Nat) (rows : Rows) : T := .tup [.int p, .int w, .tup (rows.map rt)]
theorem gc_new (μ : Store) (t : T) : gc μ.length (.cel μ.length) (μ ++ [(true, t)]) = .ok (.cel μ.length) (μ ++ [(true, t)]) := by
 unfold gc
 simp
theorem ice_new (μ : Store) (t : T) : ice μ.length (.cel μ.length) (μ ++ [(true, t)]) = .ok (.val t) μ := by
 unfold ice
 rw [frz_at (b := true) (t := t) (by simp), R.bind_ok]
 simp
end Fw.F
namespace Fw
open PySem Fw Fw.H Fw.E
theorem fEq_nil : fEq (.lst []) (.lst []) = some (.bl true) := fEq_ints [] []
theorem fNe_nil : fNe (.lst []) (.lst []) = some (.bl false) := fNe_ints [] []
theorem st_all (x : SV) (μ : Store) : R.ok x (μ.take μ.length) = R.ok x μ := by rw [List.take_length]
noncomputable def stw := And.intro @sSeq_is <| And.intro @sSet_is <| And.intro @sRet_is <| And.intro @sIf_is <| And.intro @sExpr_is <| And.intro @sNil_is <| And.intro @sAppend_is <| And.intro @sUnp_is <| And.intro @sClear_is <| And.intro @sSetItem_is <| And.intro @sPutD_is <| And.intro @sFor_is <| And.intro @dCell_is <| And.intro @dUn_is <| And.intro @dBin_is <| And.intro @dVar_is <| And.intro @dC_is <| And.intro @dCall_is <| And.intro @dArgs_cons <| And.intro @dArgs_nil <| And.intro @dNot_is <| And.intro @dAnd_is <| And.intro @dOr_is <| And.intro @dIfx_is <| And.intro @dTup_is <| And.intro @dLst_is <| And.intro @dIdx_is <| And.intro @dLen_is <| And.intro @dComp_is <| And.intro @dCut_is <| And.intro @dOpt_none <| And.intro @dOpt_some <| And.intro @dBox_is <| And.intro @iSeq_is <| And.intro @iRange1_is <| And.intro @iRange2_is <| And.intro @iZip_is <| And.intro @iEnum_is <| And.intro @iItems_is <| And.intro @ini_nil <| And.intro @ini_none <| And.intro @ini_some <| And.intro @bName_is <| And.intro @bTup_pair <| And.intro @bTup_tri <| And.intro @cal_is <| And.intro @fnV_is <| And.intro @fnD_is <| And.intro @fnK_is <| And.intro @starts_is <| And.intro @slot_succ <| And.intro @slot_zero <| And.intro @slot_none <| And.intro @R.toS_ok <| And.intro @rd_val <| And.intro @rd_cel <| And.intro @asV_val <| And.intro @ap1_some <| And.intro @ap2_some <| And.intro @toCell_val <| And.intro @asB_bl <| And.intro @asInt_int <| And.intro @frz_val <| And.intro @frzs_nil <| And.intro @frzs_cons <| And.intro @RS.seq_nx <| And.intro @RS.seq_rt <| And.intro @endV_rt <| And.intro @endD_rt <| And.intro @endK_rt <| And.intro @ice_val <| And.intro @fList_lst <| And.intro @fTuple_lst <| And.intro @fTuple_tup <| And.intro @seqItems_lst <| And.intro @seqItems_tup <| And.intro @lenS_lst <| And.intro @lenS_tup <| And.intro @idxS_lst <| And.intro @idxS_tup <| And.intro @idxS_box <| And.intro @fAdd_int <| And.intro @fSub_int <| And.intro @fMod_int <| And.intro @fDiv_int <| And.intro @fNeg_int <| And.intro @fMulA_l <| And.intro @fMulA_r <| And.intro @fLt_int <| And.intro @fLe_int <| And.intro @fGt_int <| And.intro @fGe_int <| And.intro @fEq_int <| And.intro @fNe_int <| And.intro @fEq_str <| And.intro @fNe_str <| And.intro @fEq_ints <| And.intro @fNe_ints <| And.intro @fEq_nil <| And.intro @fNe_nil <| And.intro @st_all <| And.intro @fBand_one <| And.intro @fInt_int <| And.intro @fInt_bl <| And.intro @notNon_non <| And.intro @notNon_int <| And.intro @fRev_lst <| And.intro @R.lift_some <| And.intro @R.bind_ok <| And.intro @R.calm_ok <| And.intro @atI_zero <| And.intro @atI_one <| @atI_two
noncomputable def stc := And.intro @Option.bind_some.{0, 0} <| And.intro @Option.map_some.{0, 0} <| And.intro @List.map_cons.{0, 0} <| And.intro @List.map_nil.{0, 0} <| And.intro @List.length_cons.{0} <| And.intro @List.length_nil.{0} <| And.intro @List.cons_append.{0} <| And.intro @List.nil_append.{0} <| And.intro @List.replicate_succ.{0} <| And.intro @List.replicate_zero.{0} <| And.intro @List.set_cons_succ.{0} <| And.intro @List.set_cons_zero.{0} <| And.intro @List.getElem?_cons_zero.{0} <| And.intro @List.getElem?_cons_succ.{0} <| And.intro @List.take_zero.{0} <| And.intro @List.take_nil.{0} <| And.intro @beq_self_eq_true.{0} <| And.intro @if_false.{1} <| And.intro @if_true.{1} <| And.intro @Bool.false_eq_true <| And.intro @Bool.not_true <| @Bool.not_false
end Fw
namespace Fw
open PySem Fw Fw.H Fw.E
end Fw
local macro_rules
 | `(tactic| simp! only [$ls,*]) => do
  let mut xs : Array (Lean.TSyntax `Lean.Parser.Tactic.simpLemma) := #[]
  for n in "r_sSeq_is r_sSet_is r_sRet_is r_sIf_is r_sNil_is r_dUn_is r_dBin_is r_dVar_is r_dC_is r_dCall_is r_dArgs_cons r_dArgs_nil r_dTup_is r_dLst_is r_dIdx_is r_dLen_is r_cal_is r_slot_succ r_slot_zero r_R_toS_ok r_rd_val r_ap1_some r_ap2_some r_asB_bl r_frz_val r_frzs_nil r_frzs_cons r_RS_seq_nx r_R_lift_some r_R_bind_ok r_R_calm_ok r_dAnd_is r_dOr_is r_dNot_is r_iSeq_is r_sFor_is r_ini_nil r_ini_none r_ini_some r_bName_is sExpr_is sAppend_is sUnp_is sClear_is sSetItem_is sPutD_is dCell_is dIfx_is dComp_is dCut_is dOpt_none dOpt_some dBox_is iRange1_is iRange2_is iZip_is iEnum_is iItems_is bTup_pair bTup_tri fnV_is fnD_is fnK_is starts_is slot_none rd_cel asV_val toCell_val asInt_int RS.seq_rt endV_rt endD_rt endK_rt ice_val fList_lst fTuple_lst fTuple_tup seqItems_lst seqItems_tup lenS_lst lenS_tup idxS_lst idxS_tup idxS_box fAdd_int fSub_int fMod_int fDiv_int fNeg_int fMulA_l fMulA_r fLt_int fLe_int fGt_int fGe_int fEq_int fNe_int fEq_str fNe_str fEq_ints fNe_ints fEq_nil fNe_nil st_all fBand_one fInt_int fInt_bl notNon_non notNon_int fRev_lst atI_zero atI_one atI_two".splitOn " " do xs := xs.push (← `(Lean.Parser.Tactic.simpLemma| $(Lean.mkIdent (`Fw ++ n.toName)):term))
  `(tactic| simp (disch := first | decide | omega | assumption) only [$(xs),*, Fw.stc, Nat.reduceAdd, Nat.reduceSub, $ls,*])
local macro_rules
 | `(tactic| dsimp! only [$ls,*]) => do
  let mut xs : Array (Lean.TSyntax `Lean.Parser.Tactic.simpLemma) := #[]
  for n in "r_slot_succ r_slot_zero r_dVar_is r_dC_is r_rd_val r_frz_val r_asB_bl sSeq_is sSet_is sRet_is sIf_is sExpr_is sNil_is sAppend_is sUnp_is sClear_is sSetItem_is sPutD_is sFor_is dCell_is dUn_is dBin_is dCall_is dArgs_cons dArgs_nil dNot_is dAnd_is dOr_is dIfx_is dTup_is dLst_is dIdx_is dLen_is dComp_is dCut_is dOpt_none dOpt_some dBox_is iSeq_is iRange1_is iRange2_is iZip_is iEnum_is iItems_is ini_nil ini_none ini_some bName_is bTup_pair bTup_tri cal_is fnV_is fnD_is fnK_is starts_is slot_none R.toS_ok rd_cel asV_val ap1_some ap2_some toCell_val asInt_int frzs_nil frzs_cons RS.seq_nx RS.seq_rt endV_rt endD_rt endK_rt ice_val fList_lst fTuple_lst fTuple_tup seqItems_lst seqItems_tup lenS_lst lenS_tup idxS_lst idxS_tup idxS_box fAdd_int fSub_int fMod_int fDiv_int fNeg_int fMulA_l fMulA_r fLt_int fLe_int fGt_int fGe_int fEq_int fNe_int fEq_str fNe_str fEq_ints fNe_ints fEq_nil fNe_nil st_all fBand_one fInt_int fInt_bl notNon_non notNon_int fRev_lst R.lift_some R.bind_ok R.calm_ok atI_zero atI_one atI_two".splitOn " " do xs := xs.push (← `(Lean.Parser.Tactic.simpLemma| $(Lean.mkIdent (`Fw ++ n.toName)):term))
  `(tactic| simp (disch := first | decide | omega | assumption) only [$(xs),*, Fw.stc, Nat.reduceAdd, Nat.reduceSub, $ls,*])
namespace Fw.F
open PySem Fw Fw.H Fw.E
end Fw.F
namespace Fw.F
open PySem Fw Fw.H Fw.E
end Fw.F
namespace Fw.F
open PySem Fw Fw.H Fw.E
theorem row_okV (c m : Int) (n : Nat) (μ : Store) (hm : 0 < m) (hm2 : m < 1000000) (hn2 : n ≤ 1000) : ∃ r, fnV 6 H.b_row [.val (.int c), .val (.int m), .val (.int n)] μ = .ok (.val (li r)) μ ∧ Rw m n r := by
 obtain ⟨r, h, R⟩ := H.row_ok c m n μ hm hm2 (by lia) (by lia)
 exact ⟨r, h, by have := R.len; lia, R.lo, R.hi⟩
end Fw.F
namespace Fw.F
open PySem Fw Fw.H Fw.E
end Fw.F
namespace Fw.F
open PySem Fw Fw.H Fw.E
theorem inv_ex {p : Int} (hP : IsPr p) (a : Int) (h0 : a % p ≠ 0) : ∃ y, 0 ≤ y ∧ y < p ∧ p ∣ y * a - 1 := by
 obtain ⟨y, _, h1, h2, h⟩ := over_ok hP 1 a [] h0
 exact ⟨y, h1, h2, Int.dvd_of_emod_eq_zero h⟩
structure Kept (p : Int) (w : Nat) (ls : List Ld) (lines : List (List Int)) : Prop where
 key : ∀ q ∈ ls, q.1 < w
 rl : ∀ q ∈ ls, Rw p w q.2
 one : ∀ q ∈ ls, g q.2 q.1 = 1
 tri : ls.Pairwise fun a b => g b.2 a.1 = 0
 ann : ∀ x, (∀ l ∈ lines, p ∣ dot l x) ↔ ∀ q ∈ ls, p ∣ dot q.2 x
theorem Kept.start (p : Int) (w : Nat) : Kept p w [] [] := ⟨by simp, by simp, by simp, .nil, by simp⟩
theorem Kept.count {p : Int} {w : Nat} {ls : List Ld} {lines : List (List Int)} (hp : 0 < p) (K : Kept p w ls lines) : cnt p w (sq p lines) * p.toNat ^ ls.length = p.toNat ^ w := by
 rw [← cnt_tri (w := w) hp ls (fun q hq => ⟨K.key q hq, (K.rl q hq).1, ⟨0, by rw [K.one q hq]; omega⟩⟩) (K.tri.imp fun h => by rw [h]; exact Int.dvd_zero _)]
 congr 1
 refine cnt_congr hp fun x _ => ?_
 rw [sq_iff, sq_iff, K.ann x]
 constructor
 ·intro h r hr
  obtain ⟨q, hq, rfl⟩ := List.mem_map.mp hr
  exact h q hq
 ·exact fun h q hq => h q.2 (List.mem_map.mpr ⟨q, hq, rfl⟩)
noncomputable def lessK (p : Int) (ls : List Ld) (l : List Int) : List Int := ls.foldl (fun r q => E.sub p (g r q.1) r q.2) l
theorem lessK_ok {p : Int} {w : Nat} (hp : 1 < p) : ∀ (ls : List Ld) (l : List Int) (D : List Ld), (∀ q ∈ ls, q.1 < w ∧ Rw p w q.2 ∧ g q.2 q.1 = 1) → ls.Pairwise (fun a b => g b.2 a.1 = 0) → (∀ d ∈ D, g l d.1 = 0 ∧ ∀ q ∈ ls, g q.2 d.1 = 0) → Rw p w l →
  Rw p w (lessK p ls l) ∧ (∀ d ∈ D ++ ls, g (lessK p ls l) d.1 = 0) ∧ ∀ x, (∀ q ∈ ls, p ∣ dot q.2 x) → (p ∣ dot (lessK p ls l) x ↔ p ∣ dot l x)
 | [], l, D, _, _, hD, hl => ⟨hl, fun d hd => (hD d (by simpa using hd)).1, fun x _ => Iff.rfl⟩
 | q :: ls, l, D, h, ht, hD, hl => by
  obtain ⟨q1, q2, q3⟩ := h q (by simp)
  have r1 := sub_rw (p := p) (L := w) (by omega) (g l q.1) hl.1 q2.1
  have hg : ∀ k, g (E.sub p (g l q.1) l q.2) k = (g l k - g l q.1 * g q.2 k) % p := fun k => sub_g p _ l q.2 k (by rw [hl.1, q2.1])
  obtain ⟨i1, i2, i3⟩ := lessK_ok hp ls (E.sub p (g l q.1) l q.2) (D ++ [q]) (fun a ha => h a (by simp [ha])) (List.pairwise_cons.mp ht).2 (fun d hd => by
   rcases List.mem_append.mp hd with hd | hd
   ·obtain ⟨d1, d2⟩ := hD d hd
    refine ⟨?_, fun a ha => d2 a (by simp [ha])⟩
    rw [hg, d1, d2 q (by simp)]; simp
   ·simp at hd; subst hd
    refine ⟨?_, fun a ha => (List.pairwise_cons.mp ht).1 a ha⟩
    rw [hg, q3]; simp) r1
  refine ⟨i1, fun d hd => i2 d (by simpa using hd), fun x hx => ?_⟩
  rw [show lessK p (q :: ls) l = lessK p ls (E.sub p (g l q.1) l q.2) from rfl, i3 x fun a ha => hx a (by simp [ha])]
  obtain ⟨t, ht⟩ := sub_dot p (g l q.1) l q.2 x (by rw [hl.1, q2.1])
  obtain ⟨u, hu⟩ := hx q (by simp)
  have e : dot (E.sub p (g l q.1) l q.2) x = dot l x + p * (t - g l q.1 * u) := by
   rw [dot_comm, ht, dot_comm x l, dot_comm x q.2, hu]; grind
  rw [e]
  exact Int.dvd_add_left (Int.dvd_mul_right _ _)
theorem lessK_snoc (p : Int) (ls : List Ld) (q : Ld) (l : List Int) : lessK p (ls ++ [q]) l = E.sub p (g (lessK p ls l) q.1) (lessK p ls l) q.2 := by
 unfold lessK; rw [List.foldl_append]; rfl
theorem Kept.old {p : Int} {w : Nat} {ls : List Ld} {lines : List (List Int)} {l : List Int} (hp : 1 < p) (K : Kept p w ls lines) (hl : Rw p w l) (h0 : ∀ j, j < w → g (lessK p ls l) j = 0) : Kept p w ls (lines ++ [l]) := by
 obtain ⟨r1, r2, r3⟩ := lessK_ok hp ls l [] (fun q hq => ⟨K.key q hq, K.rl q hq, K.one q hq⟩) K.tri (by simp) hl
 refine ⟨K.key, K.rl, K.one, K.tri, fun x => ?_⟩
 rw [← K.ann x]
 constructor
 ·exact fun h q hq => h q (by simp [hq])
 ·intro h q hq
  rcases List.mem_append.mp hq with hq | hq
  ·exact h q hq
  ·simp at hq; subst hq
   refine (r3 x ((K.ann x).mp h)).mp ?_
   have : dot (lessK p ls q) x = 0 := dot_zero _ _ fun i => by
    by_cases hi : i < w
    ·rw [h0 i hi, Int.zero_mul]
    ·have : g (lessK p ls q) i = 0 := by unfold g; rw [List.getD_eq_getElem?_getD, List.getElem?_eq_none (by rw [r1.1]; omega)]; rfl
     rw [this, Int.zero_mul]
   rw [this]; exact Int.dvd_zero _
theorem Kept.new {p n : Int} {w f : Nat} {ls : List Ld} {lines : List (List Int)} {l : List Int} (hp : 1 < p) (K : Kept p w ls lines) (hl : Rw p w l) (hf : f < w) (hn : n * g (lessK p ls l) f % p = 1) : Kept p w (ls ++ [(f, tm p n (lessK p ls l))]) (lines ++ [l]) := by
 obtain ⟨r1, r2, r3⟩ := lessK_ok hp ls l [] (fun q hq => ⟨K.key q hq, K.rl q hq, K.one q hq⟩) K.tri (by simp) hl
 have hR := tm_rw (p := p) (L := w) (by omega) n r1.1
 refine ⟨fun q hq => ?_, fun q hq => ?_, fun q hq => ?_, ?_, fun x => ?_⟩
 ·rcases List.mem_append.mp hq with h | h
  ·exact K.key q h
  ·simp at h; subst h; exact hf
 ·rcases List.mem_append.mp hq with h | h
  ·exact K.rl q h
  ·simp at h; subst h; exact hR
 ·rcases List.mem_append.mp hq with h | h
  ·exact K.one q h
  ·simp at h; subst h
   show g (tm p n (lessK p ls l)) f = 1
   rw [tm_g, hn]
 ·rw [List.pairwise_append]
  refine ⟨K.tri, List.pairwise_singleton _ _, fun a ha b hb => ?_⟩
  simp at hb; subst hb
  show g (tm p n (lessK p ls l)) a.1 = 0
  rw [tm_g, r2 a (by simpa using ha)]; simp
 ·have key : (∀ q ∈ ls, p ∣ dot q.2 x) → (p ∣ dot (tm p n (lessK p ls l)) x ↔ p ∣ dot l x) := fun hq => by
   rw [← r3 x hq, dot_comm, dot_comm (lessK p ls l)]
   exact tm_Z (a := g (lessK p ls l) f) _ _ (by unfold E.Inv; rw [hn, Int.emod_eq_of_lt (by omega) (by omega)])
  constructor
  ·intro h q hq
   have hk := (K.ann x).mp fun l' hl' => h l' (by simp [hl'])
   rcases List.mem_append.mp hq with h' | h'
   ·exact hk q h'
   ·simp at h'; subst h'
    exact (key hk).mpr (h l (by simp))
  ·intro h l' hl'
   have hk : ∀ q ∈ ls, p ∣ dot q.2 x := fun q hq => h q (by simp [hq])
   rcases List.mem_append.mp hl' with h' | h'
   ·exact (K.ann x).mpr hk l' h'
   ·simp at h'; subst h'
    exact (key hk).mp (h (f, tm p n (lessK p ls l')) (by simp))
end Fw.F
namespace Fw.F
open PySem Fw Fw.H Fw.E
noncomputable def kT (q : Ld) : T := .tup [.int (q.1 : Int), li q.2]
noncomputable def innerB : DS := (sSeq (sSet 8 (dIdx (dVar 5) (dVar 6)))
 (sSet 5 (dComp (iRange1 (dVar 1)) [none, some 0, some 5, some 8, some 7] (bName 0) (dC (.bl true)) (dBin fMod (dBin fSub (dIdx (dVar 2) (dVar 0)) (dBin fMulA (dVar 3) (dIdx (dVar 4) (dVar 0)))) (dVar 1)))))
noncomputable def lastB : DS := (sIf (dBin fNe (dVar 9) (dLst [])) (sSeq (sSet 6 (dIdx (dVar 9) (dC (.int 0))))
 (sSeq (sSet 10 (dC (.int 1)))
 (sSeq (sWhile (dBin fNe (dBin fMod (dBin fMulA (dVar 10) (dIdx (dVar 5) (dVar 6))) (dVar 0)) (dC (.int 1))) (sSet 10 (dBin fAdd (dVar 10) (dC (.int 1)))))
 (sAppend (dVar 3) (dTup [(dVar 6), (dComp (iSeq (dVar 5)) [none, some 0, some 10] (bName 0) (dC (.bl true)) (dBin fMod (dBin fMulA (dVar 2) (dVar 0)) (dVar 1)))]))))) sNil)
noncomputable def newB : DS := (sSeq (sSet 5 (dUn fList (dVar 4)))
 (sSeq (sFor (iSeq (dVar 3)) (bTup [6, 7]) innerB)
 (sSeq (sSet 9 (dComp (iRange1 (dVar 1)) [none, some 5] (bName 0) (dBin fNe (dIdx (dVar 1) (dVar 0)) (dC (.int 0))) (dVar 0)))
 lastB)))
noncomputable def b_new : DS :=
 (sSeq (sSet 3 (dCell (dLst [])))
 (sSeq (sFor (iSeq (dVar 2)) (bName 4) newB)
 (sRet (dLen (dVar 3)))))
theorem fNe_nilr (xs : List Int) : fNe (.lst (xs.map T.int)) (.lst []) = some (.bl (!(xs == []))) := fNe_ints xs []
theorem map_g {p : Int} {w : Nat} {r : List Int} (h : Rw p w r) : ((irange 0 w).map fun k => T.int (g r k.toNat)) = r.map T.int := by
 apply List.ext_getElem?
 intro i
 rw [irange_eq, List.map_map, List.getElem?_map, List.getElem?_map]
 by_cases hi : i < w
 ·rw [List.getElem?_range hi, List.getElem?_eq_getElem (by rw [h.1]; exact hi)]
  simp only [Option.map_some, Function.comp, Int.toNat_natCast]
  rw [g_at _ _ (by rw [h.1]; exact hi)]
 ·rw [List.getElem?_eq_none (by simp; omega), List.getElem?_eq_none (by rw [h.1]; omega)]; rfl
section
variable {p : Int} {w : Nat}
theorem inner_ok (hP : IsPr p) (hw : w ≤ 100) {l own : List Int} (hl : Rw p w l) (ho : Rw p w own) (k : Nat) (hk : k < w) (μ : Store) (x2 x3 x4 x8 x9 x10 : Option SV) :
  innerB [some (.val (.int p)), some (.val (.int w)), x2, x3, x4, some (.val (li l)), some (.val (.int (k : Int))), some (.val (li own)), x8, x9, x10] μ =
   .nx [some (.val (.int p)), some (.val (.int w)), x2, x3, x4, some (.val (li (E.sub p (g l k) l own))), some (.val (.int (k : Int))), some (.val (li own)), some (.val (.int (g l k))), x9, x10] μ := by
 have hb := hP.pos
 have a1 : atI (l.map T.int) (k : Int) = some (.int (g l k)) := atn (by rw [hl.1]; exact hk)
 have rw_ : rngOk (w : Int) = true := rngOk_of (by omega) (by omega)
 have lw : (intsT 0 (w : Int).toNat).length ≤ szL := by rw [intsT_len]; unfold szL; omega
 have gb := hl.g0 (p := p) (by omega) k
 have hR := sub_rw (p := p) (L := w) (by omega) (g l k) hl.1 ho.1
 have e1 : compL (fun _ => True) (bName 0) (dC (.bl true)) (dBin fMod (dBin fSub (dIdx (dVar 2) (dVar 0)) (dBin fMulA (dVar 3) (dIdx (dVar 4) (dVar 0)))) (dVar 1)) [none, some (.val (.int p)), some (.val (li l)), some (.val (.int (g l k))), some (.val (li own))] (intsT 0 (w : Int).toNat) μ = .ok ((E.sub p (g l k) l own).map T.int) μ := by
  rw [← map_g hR, intsT_eq, Int.toNat_natCast, compL_all (fun j : Int => T.int (g (E.sub p (g l k) l own) j.toNat)) trivial]
  intro j hj
  have hj := mem_irange.mp hj
  have b1 : atI (l.map T.int) j = some (.int (g l j.toNat)) := atg hj.1 (by rw [hl.1]; omega)
  have b2 : atI (own.map T.int) j = some (.int (g own j.toNat)) := atg hj.1 (by rw [ho.1]; omega)
  have hm : fMulA (.int (g l k)) (.int (g own j.toNat)) = some (.int (g l k * g own j.toNat)) := fMulA_l _ _ (by omega) (by omega)
  refine ⟨_, rfl, ?_⟩
  simp (disch := first | decide | omega | assumption) only [stw, stc, Nat.reduceAdd, Nat.reduceSub, b1, b2, hm]
  rw [sub_g p (g l k) l own _ (by rw [hl.1, ho.1])]
 unfold innerB
 simp (disch := first | decide | omega | assumption) only [stw, stc, Nat.reduceAdd, Nat.reduceSub, a1, rw_, lw, e1]
theorem last_ok (hP : IsPr p) (hw : w ≤ 100) {left : List Int} (hl : Rw p w left) (μ : Store) (ks : List T) (hks : ks.length ≤ 1000) (x2 x4 x6 x7 x8 x9 x10 : Option SV) :
  ((∀ j, j < w → g left j = 0) ∧ ∃ y6 y9 y10, sSeq (sSet 9 (dComp (iRange1 (dVar 1)) [none, some 5] (bName 0) (dBin fNe (dIdx (dVar 1) (dVar 0)) (dC (.int 0))) (dVar 0))) lastB [some (.val (.int p)), some (.val (.int w)), x2, some (.cel μ.length), x4, some (.val (li left)), x6, x7, x8, x9, x10] (μ ++ [(true, .lst ks)]) =
   .nx [some (.val (.int p)), some (.val (.int w)), x2, some (.cel μ.length), x4, some (.val (li left)), y6, x7, x8, y9, y10] (μ ++ [(true, .lst ks)])) ∨
  ∃ (f : Nat) (n : Int) (y6 y9 y10 : Option SV), f < w ∧ n * g left f % p = 1 ∧ sSeq (sSet 9 (dComp (iRange1 (dVar 1)) [none, some 5] (bName 0) (dBin fNe (dIdx (dVar 1) (dVar 0)) (dC (.int 0))) (dVar 0))) lastB [some (.val (.int p)), some (.val (.int w)), x2, some (.cel μ.length), x4, some (.val (li left)), x6, x7, x8, x9, x10] (μ ++ [(true, .lst ks)]) =
   .nx [some (.val (.int p)), some (.val (.int w)), x2, some (.cel μ.length), x4, some (.val (li left)), y6, x7, x8, y9, y10] (μ ++ [(true, .lst (ks ++ [kT (f, tm p n left)]))]) := by
 have hb := hP.pos
 have rw_ : rngOk (w : Int) = true := rngOk_of (by omega) (by omega)
 have lw : (intsT 0 (w : Int).toNat).length ≤ szL := by rw [intsT_len]; unfold szL; omega
 generalize hM : μ ++ [(true, T.lst ks)] = M
 obtain ⟨ps, hps⟩ : ∃ ps, ps = (irange 0 w).filter fun k => !(g left k.toNat == 0) := ⟨_, rfl⟩
 have e9 : compL (fun _ => True) (bName 0) (dBin fNe (dIdx (dVar 1) (dVar 0)) (dC (.int 0))) (dVar 0) [none, some (.val (li left))] (intsT 0 (w : Int).toNat) M = .ok (ps.map T.int) M := by
  rw [intsT_eq, Int.toNat_natCast, hps, compL_ints (fun k => !(g left k.toNat == 0)) T.int trivial]
  intro j hj
  have hj := mem_irange.mp hj
  have b1 : atI (left.map T.int) j = some (.int (g left j.toNat)) := atg hj.1 (by rw [hl.1]; omega)
  refine ⟨_, rfl, ?_, fun _ => ?_⟩
  ·simp (disch := first | decide | omega | assumption) only [stw, stc, Nat.reduceAdd, Nat.reduceSub, b1]
  ·simp (disch := first | decide | omega | assumption) only [stw, stc, Nat.reduceAdd, Nat.reduceSub]
 cases hpe : ps with
 | nil =>
  refine .inl ⟨fun j hj => ?_, x6, some (.val (.lst (ps.map T.int))), x10, ?_⟩
  ·have : (j : Int) ∉ ps := by rw [hpe]; simp
   rw [hps, List.mem_filter] at this
   have : ¬ (!(g left (j : Int).toNat == 0)) = true := fun q => this ⟨mem_irange.mpr (by omega), q⟩
   simpa using this
  ·have fn : fNe (.lst (ps.map T.int)) (.lst []) = some (.bl false) := by rw [hpe]; exact fNe_nilr []
   unfold lastB
   simp (disch := first | decide | omega | assumption) only [stw, stc, Nat.reduceAdd, Nat.reduceSub, rw_, lw, e9, fn]
 | cons f0 rest =>
  have hf0 : f0 ∈ ps := by rw [hpe]; simp
  rw [hps, List.mem_filter] at hf0
  have hfr := mem_irange.mp hf0.1
  have hne : g left f0.toNat ≠ 0 := by simpa using hf0.2
  obtain ⟨f, hf⟩ : ∃ f : Nat, (f : Int) = f0 := ⟨f0.toNat, by omega⟩
  have hff : f0.toNat = f := by omega
  rw [hff] at hne
  have gb := hl.g0 (p := p) (by omega) f
  obtain ⟨y, y0, y1, hy⟩ := inv_ex hP (g left f) (by rw [Int.emod_eq_of_lt gb.1 gb.2]; exact hne)
  have yn : 1 ≤ y := by
   rcases Int.lt_or_le y 1 with h | h
   ·have : y = 0 := by omega
    subst this
    obtain ⟨t, ht⟩ := hy
    have := Int.le_of_dvd (by omega) (show p ∣ 1 from ⟨-t, by grind⟩)
    omega
   ·exact h
  have a1 : atI (left.map T.int) f0 = some (.int (g left f)) := by rw [← hf]; exact atn (by rw [hl.1]; omega)
  have hmul : ∀ i : Int, fMulA (.int i) (.int (g left f)) = some (.int (i * g left f)) := fun i => fMulA_r _ _ (by omega) (by omega)
  have key : ∃ n : Int, (n * g left f % p = 1 ∧ 1 ≤ n ∧ n ≤ y) ∧ sWhile (dBin fNe (dBin fMod (dBin fMulA (dVar 10) (dIdx (dVar 5) (dVar 6))) (dVar 0)) (dC (.int 1))) (sSet 10 (dBin fAdd (dVar 10) (dC (.int 1)))) [some (.val (.int p)), some (.val (.int w)), x2, some (.cel μ.length), x4, some (.val (li left)), some (.val (.int f0)), x7, x8, some (.val (.lst (ps.map T.int))), some (.val (.int 1))] M =
    .nx [some (.val (.int p)), some (.val (.int w)), x2, some (.cel μ.length), x4, some (.val (li left)), some (.val (.int f0)), x7, x8, some (.val (.lst (ps.map T.int))), some (.val (.int n))] M := by
   refine sWhile_inv (P := fun r => ∃ n : Int, (n * g left f % p = 1 ∧ 1 ≤ n ∧ n ≤ y) ∧ r = .nx [some (.val (.int p)), some (.val (.int w)), x2, some (.cel μ.length), x4, some (.val (li left)), some (.val (.int f0)), x7, x8, some (.val (.lst (ps.map T.int))), some (.val (.int n))] M) (by rintro ⟨i, _, h⟩; cases h)
    (fun m e μ' => μ' = M ∧ ∃ i : Int, 1 ≤ i ∧ i + m = y ∧ e = [some (.val (.int p)), some (.val (.int w)), x2, some (.cel μ.length), x4, some (.val (li left)), some (.val (.int f0)), x7, x8, some (.val (.lst (ps.map T.int))), some (.val (.int i))]) ?_ (y - 1).toNat _ M ⟨rfl, 1, by omega, by omega, rfl⟩
   rintro m e μ' ⟨rfl, i, hi1, hi, rfl⟩
   refine ⟨!(i * g left f % p == 1), μ', ?_, ?_⟩
   ·simp (disch := first | decide | omega | assumption) only [stw, stc, Nat.reduceAdd, Nat.reduceSub, a1, hmul]
   ·cases hq : (i * g left f % p == 1) with
    | true =>
     rw [Bool.not_true, if_neg Bool.false_ne_true]
     exact ⟨i, ⟨eq_of_beq hq, hi1, by omega⟩, rfl⟩
    | false =>
     rw [Bool.not_false, if_pos rfl]
     have hne : m ≠ 0 := fun e => by
      have ei : i = y := by omega
      subst ei
      obtain ⟨t, h⟩ := hy
      rw [show i * g left f = 1 + p * t by omega, Int.add_mul_emod_self_left, Int.emod_eq_of_lt (by omega) (by omega)] at hq
      simp at hq
     simp (disch := first | decide | omega | assumption) only [stw, stc, Nat.reduceAdd, Nat.reduceSub]
     exact ⟨m - 1, by omega, rfl, i + 1, by omega, by omega, by simp⟩
  obtain ⟨n, ⟨hn, hn1, hn2⟩, hwh⟩ := key
  have etm : compL (fun _ => True) (bName 0) (dC (.bl true)) (dBin fMod (dBin fMulA (dVar 2) (dVar 0)) (dVar 1)) [none, some (.val (.int p)), some (.val (.int n))] (left.map T.int) M = .ok ((tm p n left).map T.int) M := by
   rw [compL_all (fun k => T.int (n * k % p)) trivial]
   ·simp [tm]
   ·intro k hk
    have hmm : fMulA (.int n) (.int k) = some (.int (n * k)) := fMulA_l _ _ (by omega) (by omega)
    refine ⟨_, rfl, ?_⟩
    simp (disch := first | decide | omega | assumption) only [stw, stc, Nat.reduceAdd, Nat.reduceSub, hmm]
  have ll : (left.map T.int).length ≤ szL := by rw [List.length_map, hl.1]; unfold szL; omega
  have hls : lsts (.cel μ.length) M = some () := by rw [← hM]; exact lsts_st0 _ _ _ _
  have hap : ∀ t, appendAt (.cel μ.length) t M = some (μ ++ [(true, T.lst (ks ++ [t]))]) := fun t => by rw [← hM]; exact append_st0 _ _ _ _ (by unfold szL; omega)
  refine .inr ⟨f, n, some (.val (.int f0)), some (.val (.lst (ps.map T.int))), some (.val (.int n)), by omega, hn, ?_⟩
  have i9 : atI (ps.map T.int) 0 = some (.int f0) := by rw [hpe]; exact atI_zero _ _
  have fn : fNe (.lst (ps.map T.int)) (.lst []) = some (.bl true) := by rw [hpe]; exact fNe_nilr (f0 :: rest)
  unfold lastB kT
  simp (disch := first | decide | omega | assumption) only [stw, stc, Nat.reduceAdd, Nat.reduceSub, rw_, lw, e9, fn, i9, hwh, hls, hap, ll, etm, hf]
theorem new_ok (hP : IsPr p) (hw : w ≤ 100) {lines : List (List Int)} (hl : ∀ l ∈ lines, Rw p w l) (hn : lines.length ≤ 100) (f : List Int → T) (hf : ∀ l, fList (f l) = some (li l)) (x : SV) (μ : Store) (hx : ∀ tl, rd (μ ++ tl) x = some (.lst (lines.map f))) :
  ∃ r : Nat, fnV 11 b_new [.val (.int p), .val (.int w), x] μ = .ok (.val (.int (r : Int))) μ ∧ cnt p w (sq p lines) * p.toNat ^ r = p.toNat ^ w := by
 have hb := hP.pos
 obtain ⟨e', μ', h1, ls, y4, y5, y6, y7, y8, y9, y10, rfl, rfl, K, hlen⟩ := forL_nx (same := fun μ' => rd μ' x = some (.lst (lines.map f))) (b := bName 4) (body := newB) (ts := lines.map f)
  (e := [some (.val (.int p)), some (.val (.int w)), some x, some (.cel μ.length), none, none, none, none, none, none, none]) (μ := μ ++ [(true, .lst [])])
  (fun i e μ' => ∃ ls y4 y5 y6 y7 y8 y9 y10, e = [some (.val (.int p)), some (.val (.int w)), some x, some (.cel μ.length), y4, y5, y6, y7, y8, y9, y10] ∧ μ' = μ ++ [(true, .lst (ls.map kT))] ∧ Kept p w ls (lines.take i) ∧ ls.length ≤ i)
  (fun i e μ' hX11_ => by obtain ⟨ls, _, _, _, _, _, _, _, _, h, _⟩ := hX11_; rw [h]; exact hx _) (fun i t e μ' ht hX21_ => by
   obtain ⟨ls, y4, y5, y6, y7, y8, y9, y10, he, hμ, K, hlen⟩ := hX21_
   subst he hμ
   rw [List.getElem?_map] at ht
   obtain ⟨l, hq, rfl⟩ := Option.map_eq_some_iff.mp ht
   have hi : i < lines.length := (List.getElem?_eq_some_iff.mp hq).1
   have hR : Rw p w l := hl l (List.mem_of_getElem? hq)
   have htk : lines.take (i + 1) = lines.take i ++ [l] := by rw [List.take_add_one, hq]; rfl
   generalize hM : μ ++ [(true, T.lst (ls.map kT))] = M
   have hMc : M[μ.length]? = some (true, T.lst (ls.map kT)) := by rw [← hM]; exact st_get0
   have part : ∀ j, j ≤ ls.length → Rw p w (lessK p (ls.take j) l) := fun j hj => (lessK_ok (by omega) (ls.take j) l [] (fun q hq => ⟨K.key q (List.mem_of_mem_take hq), K.rl q (List.mem_of_mem_take hq), K.one q (List.mem_of_mem_take hq)⟩) (K.tri.sublist (List.take_sublist _ _)) (by simp) hR).1
   obtain ⟨e2, μ2, g1, z6, z7, z8, rfl, rfl⟩ := forL_nx (same := fun μ' => Option.map (fun x => x.snd) μ'[μ.length]? = some (T.lst (ls.map kT))) (b := bTup [6, 7]) (body := innerB) (ts := ls.map kT)
    (e := [some (.val (.int p)), some (.val (.int w)), some x, some (.cel μ.length), some (.val (f l)), some (.val (li l)), y6, y7, y8, y9, y10]) (μ := M)
    (fun j e μ' => ∃ z6 z7 z8, e = [some (.val (.int p)), some (.val (.int w)), some x, some (.cel μ.length), some (.val (f l)), some (.val (li (lessK p (ls.take j) l))), z6, z7, z8, y9, y10] ∧ M = μ')
    (fun j e μ' hX31_ => by obtain ⟨_, _, _, _, h⟩ := hX31_; rw [← h, hMc]; rfl) (fun j t e μ' ht hX41_ => by
     obtain ⟨z6, z7, z8, he, hμ⟩ := hX41_
     subst he hμ
     rw [List.getElem?_map] at ht
     obtain ⟨q, hq', rfl⟩ := Option.map_eq_some_iff.mp ht
     have hjl : j < ls.length := (List.getElem?_eq_some_iff.mp hq').1
     have hqm : q ∈ ls := List.mem_of_getElem? hq'
     have htj : ls.take (j + 1) = ls.take j ++ [q] := by rw [List.take_add_one, hq']; rfl
     refine ⟨_, _, M, bTup_pair 6 7 (.int (q.1 : Int)) (li q.2) _, inner_ok hP hw (part j (by omega)) (K.rl q hqm) q.1 (K.key q hqm) M _ _ _ _ _ _, some (.val (.int (q.1 : Int))), some (.val (li q.2)), some (.val (.int (g (lessK p (ls.take j) l) q.1))), ?_, rfl⟩
     rw [htj, lessK_snoc])
    ⟨y6, y7, y8, by simp [lessK], rfl⟩
   rw [List.length_map, List.take_length] at g1
   obtain ⟨r1, r2, r3⟩ := lessK_ok (w := w) (by omega) ls l [] (fun q hq => ⟨K.key q hq, K.rl q hq, K.one q hq⟩) K.tri (by simp) hR
   generalize hL : lessK p ls l = left at *
   have pre : newB [some (.val (.int p)), some (.val (.int w)), some x, some (.cel μ.length), some (.val (f l)), y5, y6, y7, y8, y9, y10] M =
     sSeq (sSet 9 (dComp (iRange1 (dVar 1)) [none, some 5] (bName 0) (dBin fNe (dIdx (dVar 1) (dVar 0)) (dC (.int 0))) (dVar 0))) lastB [some (.val (.int p)), some (.val (.int w)), some x, some (.cel μ.length), some (.val (f l)), some (.val (li left)), z6, z7, z8, y9, y10] M := by
    have hfl := hf l
    unfold newB
    rw [sSeq_is, show sSet 5 (dUn fList (dVar 4)) [some (.val (.int p)), some (.val (.int w)), some x, some (.cel μ.length), some (.val (f l)), y5, y6, y7, y8, y9, y10] M = .nx [some (.val (.int p)), some (.val (.int w)), some x, some (.cel μ.length), some (.val (f l)), some (.val (li l)), y6, y7, y8, y9, y10] M by simp (disch := first | decide | omega | assumption) only [stw, stc, Nat.reduceAdd, Nat.reduceSub, hfl], RS.seq_nx, sSeq_is]
    rw [show sFor (iSeq (dVar 3)) (bTup [6, 7]) innerB [some (.val (.int p)), some (.val (.int w)), some x, some (.cel μ.length), some (.val (f l)), some (.val (li l)), y6, y7, y8, y9, y10] M = .nx [some (.val (.int p)), some (.val (.int w)), some x, some (.cel μ.length), some (.val (f l)), some (.val (li left)), z6, z7, z8, y9, y10] M by simp (disch := first | decide | omega | assumption) only [stw, stc, Nat.reduceAdd, Nat.reduceSub, hMc, g1], RS.seq_nx]
   rcases last_ok hP hw r1 μ (ls.map kT) (by rw [List.length_map]; omega) (some x) (some (.val (f l))) z6 z7 z8 y9 y10 with ⟨hz, u6, u9, u10, hlast⟩ | ⟨fN, n, u6, u9, u10, hfN, hnn, hlast⟩
   ·rw [hM] at hlast
    refine ⟨_, _, _, rfl, pre.trans hlast, ls, some (.val (f l)), some (.val (li left)), u6, z7, z8, u9, u10, rfl, hM.symm, ?_, by omega⟩
    rw [htk]
    exact K.old (by omega) hR (by rw [hL]; exact hz)
   ·rw [hM] at hlast
    refine ⟨_, _, _, rfl, pre.trans hlast, ls ++ [(fN, tm p n left)], some (.val (f l)), some (.val (li left)), u6, z7, z8, u9, u10, rfl, by simp, ?_, by simp; omega⟩
    rw [htk]
    have := K.new (n := n) (f := fN) (by omega) hR hfN (by rw [hL]; exact hnn)
    rw [hL] at this
    exact this)
  ⟨[], none, none, none, none, none, none, none, rfl, rfl, Kept.start p w, Nat.le_refl _⟩
 rw [List.length_map, List.take_length] at K
 refine ⟨ls.length, ?_, K.count (by omega)⟩
 have hx0 : rd (μ ++ [(true, T.lst [])]) x = some (.lst (lines.map f)) := hx _
 have hend : lenS (μ ++ [(true, T.lst (ls.map kT))]) (.cel μ.length) = some (.int (ls.length : Int)) := by
  rw [lenS_of (ts := ls.map kT) (by rw [rd_cel, st_get0]; rfl), List.length_map]
 unfold b_new
 simp (disch := first | decide | omega | assumption) only [stw, stc, Nat.reduceAdd, Nat.reduceSub, hx0, h1, hend, st_take]
end
end Fw.F
namespace Fw.E
open PySem Fw Fw.H
theorem unit_xD (f : T → T → Option T) (x y : Int) (z z2 : T) (μ : Store) (hr : f (.lst [.int 0]) (.int x) = some z) (hs : setAt (.cel μ.length) (.int y) (.int 1) (μ ++ [(true, z)]) = some (μ ++ [(true, z2)])) : fnD 3 (sSeq (sSet 2 (dCell (dRep f [(dC (.int 0))] (dVar 0))))
 (sSeq (sSetItem 2 (dVar 1) (dC (.int 1)))
 (sRet (dVar 2)))) [.val (.int x), .val (.int y)] μ = .ok (.cel μ.length) (μ ++ [(true, z2)]) := by
 simp [hr, hs, F.gc_new]
theorem unit_okD {w : Nat} (j : Nat) (hj : j < w) (hw : w ≤ 1000) (μ : Store) : fnD 3 b_unit [.val (.int w), .val (.int j)] μ = .ok (.cel μ.length) (μ ++ [(true, li (eu w j))]) :=
 unit_xD fRep w j _ _ μ (rep0 w hw) (hs_ w j hj μ)
noncomputable def fD_unit : FN := fnD 3 b_unit
noncomputable def fV_eased : FN := fnV 11 b_eased
noncomputable def fV_numbers_at : FN := fnV 3 b_numbers_at
noncomputable def b_nought_sum : DS :=
 (sSeq (sSet 4 (dCall (cal fD_unit) [(dVar 2), (dVar 3)]))
 (sSeq (sFor (iItems (dVar 1)) (bTup [5, 6]) (sSetItem 4 (dVar 5) (dBin fMod (dUn fNeg (dIdx (dVar 6) (dVar 3))) (dVar 0))))
 (sRet (dVar 4))))
noncomputable def fV_nought_sum : FN := fnV 7 b_nought_sum
noncomputable def nv (p : Int) (m : Nat) (ls : List Ld) (f : Nat) : List Int := (List.range m).map fun j => match ls.find? (fun q => q.1 == j) with
 | some q => (-g q.2 f) % p
 | none => if j = f then 1 else 0
theorem nv_rw {p : Int} (hp : 1 < p) (m : Nat) (ls : List Ld) (f : Nat) : Rw p m (nv p m ls f) := by
 have b : ∀ x ∈ nv p m ls f, 0 ≤ x ∧ x < p := fun x hx => by
  obtain ⟨j, _, rfl⟩ := List.mem_map.mp hx
  cases ls.find? (fun q => q.1 == j) with
  | some q => exact ⟨Int.emod_nonneg _ (by omega), Int.emod_lt_of_pos _ (by omega)⟩
  | none => simp only; split <;> omega
 exact ⟨by simp [nv], fun x hx => (b x hx).1, fun x hx => (b x hx).2⟩
theorem nv_g (p : Int) (m : Nat) (ls : List Ld) (f j : Nat) (hj : j < m) : g (nv p m ls f) j = match ls.find? (fun q => q.1 == j) with
  | some q => (-g q.2 f) % p
  | none => if j = f then 1 else 0 := by
 unfold g nv
 rw [List.getD_eq_getElem?_getD, List.getElem?_map, List.getElem?_range hj]
 rfl
theorem find_lead {ls : List Ld} {q : Ld} (hn : (ls.map (·.1)).Nodup) (h : q ∈ ls) : ls.find? (fun a => a.1 == q.1) = some q := by
 induction ls with
 | nil => simp at h
 | cons a ls ih =>
  have hn' := List.nodup_cons.mp (by simpa using hn : (a.1 :: ls.map (·.1)).Nodup)
  rw [List.find?_cons]
  rcases List.mem_cons.mp h with rfl | h
  ·simp
  ·have : a.1 ≠ q.1 := fun e => hn'.1 (e ▸ List.mem_map.mpr ⟨q, h, rfl⟩)
   rw [show (a.1 == q.1) = false by simpa using this]
   exact ih hn'.2 h
theorem find_none {ls : List Ld} {j : Nat} (h : ∀ q ∈ ls, q.1 ≠ j) : ls.find? (fun a => a.1 == j) = none := by
 rw [List.find?_eq_none]
 intro q hq
 simpa using h q hq
theorem nought_sum_ok {p : Int} {m : Nat} (hP : IsPr p) {ls : List Ld} (hn : (ls.map (·.1)).Nodup) (hk : ∀ q ∈ ls, q.1 < m) (rl : ∀ q ∈ ls, Rw p m q.2) (hm : m ≤ 1000) (f : Nat) (hf : f < m) (hfl : ∀ q ∈ ls, q.1 ≠ f) (μ : Store) :
  fV_nought_sum [.val (.int p), .val (.dct (dk ls)), .val (.int m), .val (.int f)] μ = .ok (.val (li (nv p m ls f))) μ := by
 have hb := hP.pos
 have hu : fD_unit [.val (.int m), .val (.int f)] μ = .ok (.cel μ.length) (μ ++ [(true, li (eu m f))]) := unit_okD f hf hm μ
 obtain ⟨e', μ', h1, y5, y6, ms, h2, h3, h4, h5, h6⟩ := forL_nx (same := fun _ => True) (b := bTup [5, 6]) (body := sSetItem 4 (dVar 5) (dBin fMod (dUn fNeg (dIdx (dVar 6) (dVar 3))) (dVar 0))) (ts := itemsT (dk ls))
  (e := [some (.val (.int p)), some (.val (.dct (dk ls))), some (.val (.int m)), some (.val (.int f)), some (.cel μ.length), none, none]) (μ := μ ++ [(true, li (eu m f))])
  (fun i e μ' => ∃ y5 y6 ms, e = [some (.val (.int p)), some (.val (.dct (dk ls))), some (.val (.int m)), some (.val (.int f)), some (.cel μ.length), y5, y6] ∧ μ' = μ ++ [(true, li ms)] ∧ Rw p m ms ∧ (∀ q ∈ ls.take i, g ms q.1 = (-g q.2 f) % p) ∧ ∀ j, (∀ q ∈ ls.take i, q.1 ≠ j) → g ms j = g (eu m f) j)
  (fun i e μ' _ => trivial) (fun i t e μ' ht hX11_ => by
   obtain ⟨y5, y6, ms, he, hμ, hr, h5, h6⟩ := hX11_
   subst he hμ
   obtain ⟨q, hq, hi, rfl⟩ := items_get ht
   have hmm : q ∈ ls := List.mem_of_getElem? hq
   have hkq := hk q hmm
   have ha := atn (r := q.2) (k := f) (by rw [(rl q hmm).len]; exact hf)
   have v0 := Int.emod_nonneg (-g q.2 f) (show p ≠ 0 by omega)
   have v1 := Int.emod_lt_of_pos (-g q.2 f) (show 0 < p by omega)
   have hset : ∀ v, setAt (.cel μ.length) (.int (q.1 : Int)) (.int v) (μ ++ [(true, li ms)]) = some (μ ++ [(true, li (ms.set q.1 v))]) := fun v => by
    rw [setAt_at (ts := ms.map T.int) st_get0 (by omega) (by rw [List.length_map, hr.len]; omega), st_set0]
    have : (q.1 : Int).toNat = q.1 := by omega
    rw [this, ← List.map_set]
   have htk : ls.take (i + 1) = ls.take i ++ [q] := by rw [List.take_add_one, hq]; rfl
   have gs : ∀ j, g (ms.set q.1 ((-g q.2 f) % p)) j = if j = q.1 then (-g q.2 f) % p else g ms j := fun j => g_set ms q.1 j _ (by rw [hr.len]; omega)
   refine ⟨_, _, _, bTup_pair 5 6 (.int (q.1 : Int)) (li q.2) _, ?_, some (.val (.int (q.1 : Int))), some (.val (li q.2)), ms.set q.1 ((-g q.2 f) % p), rfl, rfl, Rw.set hr v0 v1, ?_, ?_⟩
   ·simp (disch := first | decide | omega | assumption) only [stw, stc, Nat.reduceAdd, Nat.reduceSub, ha, hset]
   ·intro q' hq'
    rw [htk] at hq'
    rw [gs]
    rcases List.mem_append.mp hq' with h | h
    ·by_cases e : q'.1 = q.1
     ·have eq' : q' = q := by
       have a1 := find_lead hn (List.mem_of_mem_take h)
       have a2 := find_lead hn hmm
       rw [e, a2] at a1
       exact (Option.some.inj a1).symm
      subst eq'; rw [if_pos rfl]
     ·rw [if_neg e]; exact h5 q' h
    ·simp at h; subst h; rw [if_pos rfl]
   ·intro j hj
    rw [htk] at hj
    rw [gs, if_neg fun e => hj q (by simp) e.symm]
    exact h6 j fun q' hq' => hj q' (by simp [hq']))
  ⟨none, none, eu m f, rfl, rfl, Rw.set (rw_zeros (by omega) m) (by omega) (by omega), by simp, fun j _ => rfl⟩
 subst h2 h3
 have hlen : (itemsT (dk ls)).length = ls.length := by simp [itemsT, dk]
 rw [hlen, List.take_length] at h5 h6
 have hms : ms = nv p m ls f := rw_ext h4 (nv_rw (by omega) m ls f) fun j hj => by
  rw [nv_g p m ls f j hj]
  by_cases h : ∃ q ∈ ls, q.1 = j
  ·obtain ⟨q, hq, rfl⟩ := h
   rw [find_lead hn hq, h5 q hq]
  ·have h' : ∀ q ∈ ls, q.1 ≠ j := fun q hq e => h ⟨q, hq, e⟩
   rw [find_none h', h6 j h']
   unfold eu
   rw [g_set _ _ _ _ (by simp; exact hf)]
   by_cases e : j = f
   ·simp [e]
   ·simp [e, g, List.getElem?_replicate, hj]
 subst hms
 unfold fV_nought_sum b_nought_sum
 simp (disch := first | decide | omega | assumption) only [stw, stc, Nat.reduceAdd, Nat.reduceSub, hu, asD_dct, h1, F.ice_new]
theorem isSome_dk (ls : List Ld) (j : Nat) : (valT (dk ls) (.inl (j : Int))).isSome = ls.any fun q => decide (q.1 = j) := by
 rw [← any_dk]
 unfold valT
 rw [Option.isSome_map]
 induction dk ls with
 | nil => rfl
 | cons a l ih =>
  rw [List.find?_cons, List.any_cons]
  cases decide (a.1 = (.inl (j : Int) : Key)) with
  | true => rfl
  | false => simpa using ih
noncomputable def freeOf (m : Nat) (ls : List Ld) : List Nat := (List.range m).filter fun j => !(ls.any fun q => decide (q.1 = j))
theorem free_len {m : Nat} {ls : List Ld} (hn : (ls.map (·.1)).Nodup) (hk : ∀ q ∈ ls, q.1 < m) : (freeOf m ls).length + ls.length = m := by
 have h1 : ((List.range m).filter fun j => ls.any fun q => decide (q.1 = j)).Perm (ls.map (·.1)) := by
  refine (List.perm_ext_iff_of_nodup (List.nodup_range.sublist List.filter_sublist) hn).mpr fun j => ?_
  rw [List.mem_filter, List.mem_map, List.mem_range, List.any_eq_true]
  constructor
  ·rintro ⟨_, q, hq, e⟩; exact ⟨q, hq, by simpa using e⟩
  ·rintro ⟨q, hq, rfl⟩; exact ⟨hk q hq, q, hq, by simp⟩
 have h2 := h1.length_eq
 rw [List.length_map] at h2
 have h3 := List.length_eq_countP_add_countP (fun j => ls.any fun q => decide (q.1 = j)) (l := List.range m)
 rw [List.length_range, List.countP_eq_length_filter, List.countP_eq_length_filter, h2] at h3
 unfold freeOf
 have e : (List.range m).filter (fun j => !(ls.any fun q => decide (q.1 = j))) = (List.range m).filter (fun a => decide ¬ (ls.any fun q => decide (q.1 = a)) = true) := by
  congr 1; funext j; cases (ls.any fun q => decide (q.1 = j)) <;> rfl
 rw [e]
 omega
theorem freeOf_lt {m : Nat} {ls : List Ld} {j : Nat} (h : j ∈ freeOf m ls) : j < m ∧ ∀ q ∈ ls, q.1 ≠ j := by
 unfold freeOf at h
 rw [List.mem_filter, List.mem_range] at h
 refine ⟨h.1, fun q hq e => ?_⟩
 have := h.2
 rw [Bool.not_eq_true', List.any_eq_false] at this
 exact this q hq (by simp [e])
noncomputable def b_nought_sums : DS :=
 (sSeq (sSet 3 (dLen (dVar 2)))
 (sSeq (sSet 4 (dIdx (dCall (cal fV_eased) [(dVar 0), (dComp (iRange1 (dVar 1)) [none, some 0, some 2] (bName 0) (dC (.bl true)) (dCall (cal fV_numbers_at) [(dVar 1), (dVar 2), (dVar 0)])), (dVar 3)]) (dC (.int 0))))
 (sRet (dComp (iRange1 (dVar 3)) [none, some 0, some 4, some 3] (bName 0) (dBin fNinD (dVar 0) (dVar 2)) (dCall (cal fV_nought_sum) [(dVar 1), (dVar 2), (dVar 3), (dVar 0)])))))
theorem nought_sums_ok {p : Int} {w : Nat} {lines : List (List Int)} (hP : IsPr p) (hl : ∀ l ∈ lines, Rw p w l) (hn : lines.length ≤ 100) (hw2 : w ≤ 100) (x : SV) (μ : Store) (hx : rd μ x = some (.lst (lines.map tu))) :
  ∃ ls ns, b_nought_sums (starts 5 [.val (.int p), .val (.int w), x]) μ = .rt (.val (.lst ((freeOf lines.length ls).map fun f => li (nv p lines.length ls f)))) μ ∧ Easy p lines.length lines.length ls ns (cols w lines) := by
 have hb := hP.pos
 have hlen := lenS_of hx
 rw [List.length_map] at hlen
 have rw_ : rngOk (w : Int) = true := rngOk_of (by omega) (by omega)
 have lw : (intsT 0 (w : Int).toNat).length ≤ szL := by rw [intsT_len]; unfold szL; omega
 have rm : rngOk (lines.length : Int) = true := rngOk_of (by omega) (by omega)
 have lm : (intsT 0 (lines.length : Int).toNat).length ≤ szL := by rw [intsT_len]; unfold szL; omega
 have hrows : ∀ r ∈ cols w lines, Rw p lines.length r := fun r hr => by
  obtain ⟨j, _, rfl⟩ := List.mem_map.mp hr
  exact col_rw (by omega) hl j
 obtain ⟨ls, ns, h2, E, _⟩ := eased_ok (m := lines.length) hP (L := lines.length) (by omega) (Nat.le_refl _) (cols w lines) hrows (by simp [cols]; omega) (.val (.lst ((cols w lines).map li))) μ (fun l => rfl)
 have h2 : fV_eased [.val (.int p), .val (.lst ((cols w lines).map li)), .val (.int lines.length)] μ = _ := h2
 refine ⟨ls, ns, ?_, E⟩
 have e1 : compL (fun _ => True) (bName 0) (dC (.bl true)) (dCall (cal fV_numbers_at) [(dVar 1), (dVar 2), (dVar 0)]) [none, some (.val (.int p)), some x] (intsT 0 (w : Int).toNat) μ = .ok ((cols w lines).map li) μ := by
  rw [intsT_eq, Int.toNat_natCast, irange_eq, List.map_map]
  rw [show (List.map (T.int ∘ fun (i : Nat) => (i : Int)) (List.range w)) = (List.range w).map fun (i : Nat) => T.int (i : Int) from rfl]
  rw [compL_ofA (fun (i : Nat) => T.int (i : Int)) (fun j => li (col lines j)) trivial]
  ·rw [cols, List.map_map]; rfl
  ·intro j hj
   have hj := List.mem_range.mp hj
   have hnum : fV_numbers_at [.val (.int p), x, .val (.int j)] μ = .ok (.val (li (col lines j))) μ := numbers_ok (by omega) hl (by omega) j hj x μ hx
   refine ⟨_, rfl, ?_⟩
   simp (disch := first | decide | omega | assumption) only [stw, stc, Nat.reduceAdd, Nat.reduceSub, hnum]
 have e2 : compL (fun _ => True) (bName 0) (dBin fNinD (dVar 0) (dVar 2)) (dCall (cal fV_nought_sum) [(dVar 1), (dVar 2), (dVar 3), (dVar 0)]) [none, some (.val (.int p)), some (.val (.dct (dk ls))), some (.val (.int lines.length))] (intsT 0 (lines.length : Int).toNat) μ = .ok ((freeOf lines.length ls).map fun f => li (nv p lines.length ls f)) μ := by
  rw [intsT_eq, Int.toNat_natCast, irange_eq, List.map_map]
  rw [show (List.map (T.int ∘ fun (i : Nat) => (i : Int)) (List.range lines.length)) = (List.range lines.length).map fun (i : Nat) => T.int (i : Int) from rfl]
  rw [compL_of (fun (i : Nat) => T.int (i : Int)) (fun j => !(ls.any fun q => decide (q.1 = j))) (fun f => li (nv p lines.length ls f)) trivial]
  ·rfl
  ·intro j hj
   have hj := List.mem_range.mp hj
   refine ⟨_, rfl, ?_, fun h => ?_⟩
   ·simp (disch := first | decide | omega | assumption) only [stw, stc, Nat.reduceAdd, Nat.reduceSub, fNinD_int, isSome_dk]
   ·have hfl : ∀ q ∈ ls, q.1 ≠ j := fun q hq e => by
     rw [Bool.not_eq_true', List.any_eq_false] at h
     exact h q hq (by simp [e])
    have hs := nought_sum_ok hP E.nd E.key E.rl (by omega) j hj hfl μ
    simp (disch := first | decide | omega | assumption) only [stw, stc, Nat.reduceAdd, Nat.reduceSub, hs]
 unfold b_nought_sums
 simp (disch := first | decide | omega | assumption) only [stw, stc, Nat.reduceAdd, Nat.reduceSub, hlen, rw_, lw, e1, h2, rm, lm, e2]
theorem nought_many {p : Int} {w r : Nat} {lines : List (List Int)} {ls : List Ld} {ns : List (List Int)} (hP : IsPr p) (hw2 : w ≤ 100) (hn : lines.length ≤ 100) (hR : ∀ l ∈ lines, Rw p w l) (h : cnt p w (sq p lines) * p.toNat ^ r = p.toNat ^ w) (E : Easy p lines.length lines.length ls ns (cols w lines)) : (freeOf lines.length ls).length + r = lines.length := by
 have := free_len E.nd E.key
 rw [leads_rank hP hw2 hn hR h E] at this
 exact this
end Fw.E
namespace Fw.k05
open PySem Fw Fw.H Fw.E Fw.F
theorem cell_ok (ns : List Int) (k : Int) (μ : Store) (h0 : 0 ≤ k) (h1 : k ≤ 1000) : ∃ c, fV__law_cell [.val (.lst (ns.map T.int)), .val (.int k)] μ = .ok (.val (.int c)) μ := H.cell_ok ns k μ h0 h1
theorem row_ok (c m : Int) (n : Nat) (μ : Store) (hm : 0 < m) (hm2 : m < 1000000) (hn2 : n ≤ 1000) : ∃ r, fV__law_row [.val (.int c), .val (.int m), .val (.int n)] μ = .ok (.val (li r)) μ ∧ Rw m n r := row_okV c m n μ hm hm2 hn2
theorem p_ok (c : Int) (μ : Store) : ∃ p, fV__law_p [.val (.int c)] μ = .ok (.val (.int p)) μ ∧ IsPr p := H.p_ok c μ
theorem mixed_ok' {p : Int} {w : Nat} {lines : List (List Int)} {ms : List Int} (hp : 0 < p) (hp2 : p < 1000000) (hl : ∀ l ∈ lines, Rw p w l) (hm : Rw p lines.length ms) (hn : lines.length ≤ 100) (hw2 : w ≤ 100) (x y : SV) (μ : Store) (hx : ∀ l, rd (μ ++ l) x = some (.lst (lines.map tu))) (hy : ∀ l, rd (μ ++ l) y = some (li ms)) :
  fV__law_mixed [.val (.int p), .val (.int w), x, y] μ = .ok (.val (tu (mix p w lines ms))) μ := E.mixed_ok hp hp2 hl hm hn hw2 x y μ hx hy
theorem numbers_ok' {p : Int} {n : Nat} {r : List Int} (h : Rw p n r) (y : SV) (t : T) (μ : Store) (hy : rd μ y = some t) (ht : seqItems t = some (r.map T.int)) : fV__law_numbers [y, .val (.int p)] μ = .ok (.val (.bl true)) μ := by
 unfold fV__law_numbers b__law_numbers
 simp [hy, ht]
 refine forL_inv (P := fun x => RS.endV μ.length (x.seq (sRet (dC (.bl true)))) = R.ok (SV.val (.bl true)) μ)
  (fun i e μ' => μ' = μ ∧ ∃ x2, e = [some y, some (.val (.int p)), x2]) ?_ ?_ ?_ ⟨rfl, none, rfl⟩
 ·rintro i e μ' ⟨rfl, _⟩; exact hy
 ·rintro i t e μ' ht ⟨rfl, x2, rfl⟩
  rw [List.getElem?_map] at ht
  obtain ⟨k, hk, rfl⟩ := Option.map_eq_some_iff.mp ht
  have h0 := h.lo k (List.mem_of_getElem? hk)
  have h1 := h.hi k (List.mem_of_getElem? hk)
  refine ⟨_, rfl, ?_⟩
  simp [isK, h0, h1]
 ·rintro e μ' ⟨rfl, x2, rfl⟩
  simp
theorem lines_ok (ns : List Int) {p : Int} (hp : 0 < p) (hp2 : p < 1000000) (w m : Nat) (hw : w ≤ 100) (hm : m ≤ 100) (μ : Store) :
  ∃ lines : List (List Int), fV__law_lines [.val (.lst (ns.map T.int)), .val (.int p), .val (.int w), .val (.int m)] μ = .ok (.val (.lst (lines.map tu))) μ ∧ lines.length = m ∧ ∀ l ∈ lines, Rw p w l := by
 unfold fV__law_lines b__law_lines
 simp (disch := omega)
 refine forL_inv (P := fun r => ∃ lines : List (List Int), RS.endV μ.length (r.seq (sRet (dVar 4))) = R.ok (SV.val (.lst (lines.map tu))) μ ∧ lines.length = m ∧ ∀ l ∈ lines, Rw p w l)
  (fun i e μ' => ∃ x5 x6 x7, ∃ lines : List (List Int), e = [some (.val (.lst (ns.map T.int))), some (.val (.int p)), some (.val (.int w)), some (.val (.int m)), some (.cel μ.length), x5, x6, x7] ∧ μ' = μ ++ [(true, .lst (lines.map tu))] ∧ lines.length = i ∧ ∀ l ∈ lines, Rw p w l) (fun _ _ _ _ => trivial) ?_ ?_ ⟨none, none, none, [], rfl, rfl, rfl, by simp⟩
 ·rintro i t e μ' ht ⟨x5, x6, x7, lines, rfl, rfl, hlen, hR⟩
  obtain ⟨hi, rfl⟩ := intsT_at ht
  have e0 : (0 : Int) + (i : Int) = (i : Int) := by omega
  rw [e0]
  refine ⟨_, bName_is _ _ _, ?_⟩
  generalize hc : (true, T.lst (lines.map tu)) = c
  obtain ⟨z, hz⟩ := cell_ok ns (2 + (i : Int)) (μ ++ [c]) (by omega) (by omega)
  obtain ⟨r1, hr1, R1⟩ := row_ok (z / 5) p w (μ ++ [c]) hp hp2 (by omega)
  obtain ⟨r2, hr2, R2⟩ := row_ok (z / 5) p i (μ ++ [c]) hp hp2 (by omega)
  have hls : lsts (.cel μ.length) (μ ++ [c]) = some () := by rw [← hc]; exact lsts_st0 _ _ _ _
  have hap : ∀ t, appendAt (.cel μ.length) t (μ ++ [c]) = some (μ ++ [(true, T.lst (lines.map tu ++ [t]))]) := fun t => by rw [← hc]; exact append_st0 _ _ _ _ (by simp [szL]; omega)
  have hrd : ∀ l, rd ((μ ++ [c]) ++ l) (.cel μ.length) = some (.lst (lines.map tu)) := fun l => by rw [← hc]; simp
  have hrd0 : rd (μ ++ [c]) (.cel μ.length) = some (.lst (lines.map tu)) := by rw [← hc]; simp
  have fin : ∀ (l : List Int), Rw p w l → ∀ (e : Slots), ∃ x5 x6 x7, ∃ lines' : List (List Int), (e = [some (.val (.lst (ns.map T.int))), some (.val (.int p)), some (.val (.int w)), some (.val (.int m)), some (.cel μ.length), some (.val (.int i)), some (.val (.int z)), some (.val (tu l))] → e = [some (.val (.lst (ns.map T.int))), some (.val (.int p)), some (.val (.int w)), some (.val (.int m)), some (.cel μ.length), x5, x6, x7] ∧ μ ++ [(true, T.lst (lines.map tu ++ [tu l]))] = μ ++ [(true, T.lst (lines'.map tu))] ∧ lines'.length = i + 1 ∧ ∀ l ∈ lines', Rw p w l) := fun l hl e =>
   ⟨_, _, _, lines ++ [l], fun he => ⟨he, by simp, by simp [hlen], fun l' h' => by
    rcases List.mem_append.mp h' with h | h
    ·exact hR l' h
    ·simp at h; subst h; exact hl⟩⟩
  have z0 : 0 ≤ z % 5 ∧ z % 5 < 5 := by omega
  by_cases c0 : z % 5 = 0 ∧ (0 : Int) < i
  ·have hidx : 0 ≤ z / 5 % (i : Int) ∧ z / 5 % (i : Int) < i := ⟨Int.emod_nonneg _ (by omega), Int.emod_lt_of_pos _ c0.2⟩
   have hat : idxS (μ ++ [c]) (.cel μ.length) (.int (z / 5 % (i : Int))) = some (.val (tu (lines[(z / 5 % (i : Int)).toNat]'(by omega)))) := by
    rw [idxS_of hrd0, atI_map hidx.1 (by omega)]; rfl
   have hin : (0 : Int) < i := c0.2
   have hRl : Rw p w (lines[(z / 5 % (i : Int)).toNat]'(by omega)) := hR _ (List.getElem_mem _)
   generalize (lines[(z / 5 % (i : Int)).toNat]'(by omega)) = l at hat hRl
   obtain ⟨x5, x6, x7, lines', hf⟩ := fin l hRl _
   simp only [sSeq_is, sSet_is, dCall_is, dArgs_cons, dArgs_nil, dVar_is, dBin_is, dC_is, cal_is, List.set_cons_succ, List.set_cons_zero, slot_succ, slot_zero, R.lift_some, R.bind_ok, R.toS_ok, rd_val, ap2_some, fAdd_int, Option.map_some, hz, R.calm_ok, RS.seq_nx, fDiv_int _ _ (show (0 : Int) < 5 by omega) (show (5 : Int) < 1073741824 by omega), hr1, dUn_is, ap1_some, fTuple_lst, sIf_is, dAnd_is, fMod_int _ _ (show (0 : Int) < 5 by omega), fEq_int, c0.1, beq_self_eq_true, asB_bl, if_true, fGt_int, decide_eq_true hin, dIdx_is, fMod_int _ _ hin, Option.bind_some, hat, show ((0 : Int) == 1) = false from rfl, Bool.false_eq_true, if_false, sNil_is, sAppend_is, hls, frz_val, hap, goes_nx]
   exact ⟨_, _, _, _, hf rfl⟩
  ·by_cases c1 : z % 5 = 1 ∧ (1 : Int) < i
   ·have hmx := mixed_ok' (p := p) (w := w) (lines := lines) (ms := r2) hp hp2 hR (by rw [hlen]; exact R2) (by omega) hw (.cel μ.length) (.val (li r2)) (μ ++ [c]) hrd (fun _ => rfl)
    have hRl := mix_rw hp w lines r2
    generalize mix p w lines r2 = l at hmx hRl
    obtain ⟨x5, x6, x7, lines', hf⟩ := fin l hRl _
    simp only [sSeq_is, sSet_is, dCall_is, dArgs_cons, dArgs_nil, dVar_is, dBin_is, dC_is, cal_is, List.set_cons_succ, List.set_cons_zero, slot_succ, slot_zero, R.lift_some, R.bind_ok, R.toS_ok, rd_val, ap2_some, fAdd_int, Option.map_some, hz, R.calm_ok, RS.seq_nx, fDiv_int _ _ (show (0 : Int) < 5 by omega) (show (5 : Int) < 1073741824 by omega), hr1, dUn_is, ap1_some, fTuple_lst, sIf_is, dAnd_is, fMod_int _ _ (show (0 : Int) < 5 by omega), fEq_int, beq_self_eq_true, asB_bl, if_true, fGt_int, Option.bind_some, Bool.false_eq_true, if_false, sNil_is, sAppend_is, hls, frz_val, hap, goes_nx, c1.1, show ((1 : Int) == 0) = false from rfl, decide_eq_true c1.2, hr2, hmx]
    exact ⟨_, _, _, _, hf rfl⟩
   ·obtain ⟨x5, x6, x7, lines', hf⟩ := fin r1 R1 _
    have b0 : (z % 5 == 0) = decide (z % 5 = 0) := by rw [Bool.beq_eq_decide_eq]
    have b1 : (z % 5 == 1) = decide (z % 5 = 1) := by rw [Bool.beq_eq_decide_eq]
    by_cases a0 : z % 5 = 0
    ·have n0 : ¬ (0 : Int) < i := fun h => c0 ⟨a0, h⟩
     simp only [sSeq_is, sSet_is, dCall_is, dArgs_cons, dArgs_nil, dVar_is, dBin_is, dC_is, cal_is, List.set_cons_succ, List.set_cons_zero, slot_succ, slot_zero, R.lift_some, R.bind_ok, R.toS_ok, rd_val, ap2_some, fAdd_int, Option.map_some, hz, R.calm_ok, RS.seq_nx, fDiv_int _ _ (show (0 : Int) < 5 by omega) (show (5 : Int) < 1073741824 by omega), hr1, dUn_is, ap1_some, fTuple_lst, sIf_is, dAnd_is, fMod_int _ _ (show (0 : Int) < 5 by omega), fEq_int, beq_self_eq_true, asB_bl, if_true, fGt_int, Option.bind_some, Bool.false_eq_true, if_false, sNil_is, sAppend_is, hls, frz_val, hap, goes_nx, a0, show ((0 : Int) == 1) = false from rfl, decide_eq_false n0]
     exact ⟨_, _, _, _, hf rfl⟩
    ·by_cases a1 : z % 5 = 1
     ·have n1 : ¬ (1 : Int) < i := fun h => c1 ⟨a1, h⟩
      simp only [sSeq_is, sSet_is, dCall_is, dArgs_cons, dArgs_nil, dVar_is, dBin_is, dC_is, cal_is, List.set_cons_succ, List.set_cons_zero, slot_succ, slot_zero, R.lift_some, R.bind_ok, R.toS_ok, rd_val, ap2_some, fAdd_int, Option.map_some, hz, R.calm_ok, RS.seq_nx, fDiv_int _ _ (show (0 : Int) < 5 by omega) (show (5 : Int) < 1073741824 by omega), hr1, dUn_is, ap1_some, fTuple_lst, sIf_is, dAnd_is, fMod_int _ _ (show (0 : Int) < 5 by omega), fEq_int, beq_self_eq_true, asB_bl, if_true, fGt_int, Option.bind_some, Bool.false_eq_true, if_false, sNil_is, sAppend_is, hls, frz_val, hap, goes_nx, a1, show ((1 : Int) == 0) = false from rfl, decide_eq_false n1]
      exact ⟨_, _, _, _, hf rfl⟩
     ·simp only [sSeq_is, sSet_is, dCall_is, dArgs_cons, dArgs_nil, dVar_is, dBin_is, dC_is, cal_is, List.set_cons_succ, List.set_cons_zero, slot_succ, slot_zero, R.lift_some, R.bind_ok, R.toS_ok, rd_val, ap2_some, fAdd_int, Option.map_some, hz, R.calm_ok, RS.seq_nx, fDiv_int _ _ (show (0 : Int) < 5 by omega) (show (5 : Int) < 1073741824 by omega), hr1, dUn_is, ap1_some, fTuple_lst, sIf_is, dAnd_is, fMod_int _ _ (show (0 : Int) < 5 by omega), fEq_int, beq_self_eq_true, asB_bl, if_true, fGt_int, Option.bind_some, Bool.false_eq_true, if_false, sNil_is, sAppend_is, hls, frz_val, hap, goes_nx, b0, b1, decide_eq_false a0, decide_eq_false a1]
      exact ⟨_, _, _, _, hf rfl⟩
 ·rintro e μ' ⟨x5, x6, x7, lines, rfl, rfl, hlen, hR⟩
  rw [intsT_len] at hlen
  exact ⟨lines, by simp, hlen, hR⟩
end Fw.k05
namespace Fw.k05
open PySem Fw Fw.H Fw.E Fw.F
theorem cell_rt {i j : Nat} {a b d : D} {e : Slots} {μ μ' : Store} {t : T} (h : sSeq (sSet i a) (sSeq (sSet j b) (sRet d)) e μ = .rt (.val t) μ') : sSeq (sSet i a) (sSeq (sSet j b) (sRet (dCell d))) e μ = .rt (.cel μ'.length) (μ' ++ [(true, t)]) := by
 rw [sSeq_is, sSet_is] at h ⊢
 cases q : a e μ with
 | err c μ1 => rw [q] at h; cases h
 | bad => rw [q] at h; cases h
 | ok x μ1 =>
  rw [q] at h
  rw [R.toS_ok, RS.seq_nx, sSeq_is, sSet_is] at h ⊢
  cases q2 : b (e.set i (some x)) μ1 with
  | err c μ2 => rw [q2] at h; cases h
  | bad => rw [q2] at h; cases h
  | ok y μ2 =>
   rw [q2] at h
   rw [R.toS_ok, RS.seq_nx, sRet_is] at h ⊢
   cases q3 : d ((e.set i (some x)).set j (some y)) μ2 with
   | err c μ3 => rw [q3] at h; cases h
   | bad => rw [q3] at h; cases h
   | ok z μ3 =>
    rw [q3] at h
    cases h
    rw [dCell_is, q3]
    rfl
theorem nsD_ok {p : Int} {w : Nat} {lines : List (List Int)} (hP : IsPr p) (hl : ∀ l ∈ lines, Rw p w l) (hn : lines.length ≤ 100) (hw2 : w ≤ 100) (x : SV) (μ : Store) (hx : rd μ x = some (.lst (lines.map tu))) :
  ∃ ls ns, fD_nought_sums [.val (.int p), .val (.int w), x] μ = .ok (.cel μ.length) (μ ++ [(true, .lst ((freeOf lines.length ls).map fun f => li (nv p lines.length ls f)))]) ∧
   fV_nought_sums [.val (.int p), .val (.int w), x] μ = .ok (.val (.lst ((freeOf lines.length ls).map fun f => li (nv p lines.length ls f)))) μ ∧ Easy p lines.length lines.length ls ns (cols w lines) := by
 obtain ⟨ls, ns, h, E⟩ := E.nought_sums_ok hP hl hn hw2 x μ hx
 have h2 := cell_rt h
 have h3 : b_nought_sums (starts 5 [.val (.int p), .val (.int w), x]) μ = .rt (.cel μ.length) (μ ++ [(true, .lst ((freeOf lines.length ls).map fun f => li (nv p lines.length ls f)))]) := h2
 refine ⟨ls, ns, ?_, ?_, E⟩
 ·unfold fD_nought_sums
  rw [fnD_is, h3, endD_rt, gc_new]
 ·unfold fV_nought_sums
  rw [fnV_is, h3, endV_rt]
  simp [ice, frz]
end Fw.k05
namespace Fw.k05
open PySem Fw Fw.H Fw.E Fw.F
theorem sum_two (F : Nat → Int) (a b : Nat) (hab : a ≠ b) (h0 : ∀ j, j ≠ a → j ≠ b → F j = 0) : ∀ n : Nat, ((List.range n).map F).sum = (if a < n then F a else 0) + (if b < n then F b else 0)
 | 0 => by simp
 | n + 1 => by
  rw [List.range_succ, List.map_append, List.sum_append, sum_two F a b hab h0 n, List.map_cons, List.map_nil, List.sum_cons, List.sum_nil]
  by_cases ea : n = a
  ·subst ea
   rw [if_neg (Nat.lt_irrefl _), if_pos (Nat.lt_succ_self _)]
   by_cases hb : b < n
   ·rw [if_pos hb, if_pos (by omega)]; omega
   ·rw [if_neg hb, if_neg (by omega)]; omega
  ·by_cases eb : n = b
   ·subst eb
    rw [if_neg (Nat.lt_irrefl _), if_pos (Nat.lt_succ_self _)]
    by_cases ha : a < n
    ·rw [if_pos ha, if_pos (by omega)]; omega
    ·rw [if_neg ha, if_neg (by omega)]; omega
   ·rw [h0 n ea eb]
    by_cases ha : a < n <;> by_cases hb : b < n
    ·rw [if_pos ha, if_pos hb, if_pos (by omega), if_pos (by omega)]; omega
    ·rw [if_pos ha, if_neg hb, if_pos (by omega), if_neg (by omega)]; omega
    ·rw [if_neg ha, if_pos hb, if_neg (by omega), if_pos (by omega)]; omega
    ·rw [if_neg ha, if_neg hb, if_neg (by omega), if_neg (by omega)]; omega
section
variable {p : Int} {m : Nat} {ls : List Ld} {ns rows : List (List Int)}
theorem nv_lead (E : Easy p m m ls ns rows) {f : Nat} {q : Ld} (h : q ∈ ls) : g (nv p m ls f) q.1 = (-g q.2 f) % p := by
 rw [nv_g p m ls f q.1 (E.key q h), find_lead E.nd h]
theorem nv_free {f j : Nat} (hj : j < m) (h : ∀ q ∈ ls, q.1 ≠ j) : g (nv p m ls f) j = if j = f then 1 else 0 := by
 rw [nv_g p m ls f j hj, find_none h]
theorem nv_dot (hp : 1 < p) (E : Easy p m m ls ns rows) {f : Nat} (hf : f ∈ freeOf m ls) {q : Ld} (h : q ∈ ls) : p ∣ dot (nv p m ls f) q.2 := by
 obtain ⟨hfm, hfl⟩ := freeOf_lt hf
 have hR := nv_rw hp m ls f
 rw [← sum_dot _ _ m hR.1 (E.rl q h).1, sum_two _ q.1 f (hfl q h), if_pos (E.key q h), if_pos hfm, nv_lead E h, nv_free hfm hfl, if_pos rfl, E.one q h]
 ·have := Int.emod_add_mul_ediv (-g q.2 f) p
  exact ⟨-((-g q.2 f) / p), by grind⟩
 ·intro j ha hb
  by_cases hj : j < m
  ·by_cases hl : ∃ q' ∈ ls, q'.1 = j
   ·obtain ⟨q', h', rfl⟩ := hl
    rw [E.off q h q' h' ha, Int.mul_zero]
   ·rw [nv_free hj (fun q' h' e => hl ⟨q', h', e⟩), if_neg hb, Int.zero_mul]
  ·have : g (nv p m ls f) j = 0 := by
    unfold g
    rw [List.getD_eq_getElem?_getD, List.getElem?_eq_none (by rw [hR.1]; omega)]
    rfl
   rw [this, Int.zero_mul]
theorem nv_nought (hp : 1 < p) (E : Easy p m m ls ns rows) {f : Nat} (hf : f ∈ freeOf m ls) : ∀ r ∈ rows, p ∣ dot (nv p m ls f) r := by
 refine (E.eq (nv p m ls f)).mpr ⟨fun q h => nv_dot hp E hf h, fun r h => ?_⟩
 unfold Z
 rw [← sum_dot _ _ m (nv_rw hp m ls f).1 (E.rn r h).1, sum_two _ m (m + 1) (by omega), if_neg (by omega), if_neg (by omega)]
 ·exact ⟨0, by omega⟩
 ·intro j _ _
  by_cases hj : j < m
  ·rw [E.no r h j hj, Int.mul_zero]
  ·have : g r j = 0 := by
    unfold g
    rw [List.getD_eq_getElem?_getD, List.getElem?_eq_none (by rw [(E.rn r h).1]; omega)]
    rfl
   rw [this, Int.mul_zero]
theorem nv_kept (hp : 1 < p) : Kept p m ((freeOf m ls).map fun f => (f, nv p m ls f)) ((freeOf m ls).map fun f => nv p m ls f) where
 key := fun q hq => by obtain ⟨f, hf, rfl⟩ := List.mem_map.mp hq; exact (freeOf_lt hf).1
 rl := fun q hq => by obtain ⟨f, hf, rfl⟩ := List.mem_map.mp hq; exact nv_rw hp m ls f
 one := fun q hq => by
  obtain ⟨f, hf, rfl⟩ := List.mem_map.mp hq
  obtain ⟨h1, h2⟩ := freeOf_lt hf
  show g (nv p m ls f) f = 1
  rw [nv_free h1 h2, if_pos rfl]
 tri := by
  have nd : (freeOf m ls).Nodup := List.nodup_range.sublist List.filter_sublist
  rw [List.pairwise_map]
  refine List.Pairwise.imp_of_mem (fun {a b} ha hb hab => ?_) nd
  obtain ⟨h1, h2⟩ := freeOf_lt ha
  show g (nv p m ls b) a = 0
  rw [nv_free h1 h2, if_neg hab]
 ann := fun x => by
  constructor
  ·intro h q hq
   obtain ⟨f, hf, rfl⟩ := List.mem_map.mp hq
   exact h _ (List.mem_map.mpr ⟨f, hf, rfl⟩)
  ·intro h l hl
   obtain ⟨f, hf, rfl⟩ := List.mem_map.mp hl
   exact h (f, nv p m ls f) (List.mem_map.mpr ⟨f, hf, rfl⟩)
end
theorem mix_nought {p : Int} {w : Nat} {lines : List (List Int)} {ms : List Int} (hp : 0 < p) (h : ∀ r ∈ cols w lines, p ∣ dot ms r) : mix p w lines ms = List.replicate w 0 := by
 unfold mix
 rw [List.eq_replicate_iff]
 refine ⟨by simp, fun b hb => ?_⟩
 obtain ⟨j, hj, rfl⟩ := List.mem_map.mp hb
 exact Int.emod_eq_zero_of_dvd (h _ (List.mem_map.mpr ⟨j, hj, rfl⟩))
end Fw.k05
namespace Fw.k05
open PySem Fw Fw.H Fw.E Fw.F
theorem rws_is (ls : List (List Int)) : Rws ls = .lst (ls.map tu) := (rfl)
theorem lawA_ok (ns : List Int) : ∃ (c p : Int) (w m : Nat) (ls : List (List Int)), lawA [some (.val (.lst (ns.map T.int))), none, none, none, none, none, none, none, none, none] [] =
   .nx [some (.val (.lst (ns.map T.int))), some (.val (.int c)), some (.val (.int p)), some (.val (.int w)), some (.val (.int m)), some (.val (Rws ls)), none, none, none, none] [] ∧
  IsPr p ∧ w ≤ 12 ∧ m ≤ 12 ∧ ls.length = m ∧ ∀ l ∈ ls, Rw p w l := by
 obtain ⟨c, hc⟩ := cell_ok ns 0 [] (by omega) (by omega)
 obtain ⟨p, hp, hP⟩ := p_ok c []
 have hb := hP.pos
 by_cases h8 : c / 9600 % 8 = 3
 ·have e8 : (c / 9600 % 8 == 3) = true := by simp [h8]
  obtain ⟨ls, hl, hlen, hR⟩ := lines_ok ns (p := p) (by omega) (by omega) (c / 200 % 13).toNat (c / 2600 % 13).toNat (by omega) (by omega) []
  rw [show (((c / 200 % 13).toNat : Nat) : Int) = c / 200 % 13 by omega, show (((c / 2600 % 13).toNat : Nat) : Int) = c / 2600 % 13 by omega] at hl
  refine ⟨c, p, (c / 200 % 13).toNat, (c / 2600 % 13).toNat, ls, ?_, hP, by omega, by omega, hlen, hR⟩
  rw [show (((c / 200 % 13).toNat : Nat) : Int) = c / 200 % 13 by omega, show (((c / 2600 % 13).toNat : Nat) : Int) = c / 2600 % 13 by omega]
  rw [rws_is]
  unfold lawA law_s0 law_s1 law_s2 law_s3 law_s4 law_s5
  simp (disch := first | decide | omega | assumption) only [stw, stc, Nat.reduceAdd, Nat.reduceSub, hc, hp, e8, hl]
 ·have e8 : (c / 9600 % 8 == 3) = false := by simp [h8]
  obtain ⟨ls, hl, hlen, hR⟩ := lines_ok ns (p := p) (by omega) (by omega) (c / 200 % 6).toNat (c / 1200 % 8).toNat (by omega) (by omega) []
  rw [show (((c / 200 % 6).toNat : Nat) : Int) = c / 200 % 6 by omega, show (((c / 1200 % 8).toNat : Nat) : Int) = c / 1200 % 8 by omega] at hl
  refine ⟨c, p, (c / 200 % 6).toNat, (c / 1200 % 8).toNat, ls, ?_, hP, by omega, by omega, hlen, hR⟩
  rw [show (((c / 200 % 6).toNat : Nat) : Int) = c / 200 % 6 by omega, show (((c / 1200 % 8).toNat : Nat) : Int) = c / 1200 % 8 by omega]
  rw [rws_is]
  unfold lawA law_s0 law_s1 law_s2 law_s3 law_s4 law_s5
  simp (disch := first | decide | omega | assumption) only [stw, stc, Nat.reduceAdd, Nat.reduceSub, hc, hp, e8, hl]
end Fw.k05
namespace Fw.k05
open PySem Fw Fw.H Fw.E Fw.F
theorem newT_ok {p : Int} {w : Nat} (hP : IsPr p) (hw : w ≤ 100) {lines : List (List Int)} (hl : ∀ l ∈ lines, Rw p w l) (hn : lines.length ≤ 100) (f : List Int → T) (hf : ∀ l, fList (f l) = some (li l)) (x : SV) (μ : Store) (hx : ∀ tl, rd (μ ++ tl) x = some (.lst (lines.map f))) :
  ∃ r : Nat, fV__law_new [.val (.int p), .val (.int w), x] μ = .ok (.val (.int (r : Int))) μ ∧ cnt p w (sq p lines) * p.toNat ^ r = p.toNat ^ w := F.new_ok hP hw hl hn f hf x μ hx
theorem fNe_rows (ls : List (List Int)) : fNe (.lst (ls.map tu)) (.lst (ls.map tu)) = some (.bl false) := by
 have h : okT 100 (.lst (ls.map tu)) = true := by
  rw [okT_lst, okTs_iff]
  intro t ht
  obtain ⟨l, _, rfl⟩ := List.mem_map.mp ht
  simp
 rw [fNe_ok h h, eqT_refl 100 _ h]; rfl
theorem zeros_ok (w : Nat) (hw : w ≤ 100) (x0 x1 x2 x4 x5 x6 x7 x8 x9 : Option SV) (μ : Store) : dUn fTuple (dComp (iRange1 (dVar 3)) [none] (bName 0) (dC (.bl true)) (dC (.int 0))) [x0, x1, x2, some (.val (.int w)), x4, x5, x6, x7, x8, x9] μ = .ok (.val (.tup ((List.replicate w 0).map T.int))) μ := by
 have rw_ : rngOk (w : Int) = true := rngOk_of (by omega) (by omega)
 have lw : (intsT 0 (w : Int).toNat).length ≤ szL := by rw [intsT_len]; unfold szL; omega
 have e : compL (fun _ => True) (bName 0) (dC (.bl true)) (dC (.int 0)) [none] (intsT 0 (w : Int).toNat) μ = .ok ((irange 0 (w : Int).toNat).map fun _ => T.int 0) μ := by
  rw [intsT_eq, compL_all (fun k : Int => .int 0) trivial]
  intro k hk
  exact ⟨_, rfl, rfl⟩
 have e2 : ((irange 0 (w : Int).toNat).map fun _ => T.int 0) = (List.replicate w 0).map T.int := by
  rw [irange_eq, List.map_map, List.map_replicate, List.eq_replicate_iff]
  refine ⟨by simp, fun b hb => ?_⟩
  obtain ⟨j, _, rfl⟩ := List.mem_map.mp hb
  rfl
 rw [e2] at e
 simp (disch := first | decide | omega | assumption) only [stw, stc, Nat.reduceAdd, Nat.reduceSub, rw_, lw, e]
noncomputable def b9 : DS := (sSeq (sIf (dOr (dNot (dIs .list (dVar 8))) (dOr (dBin fNe (dLen (dVar 8)) (dVar 4)) (dNot (dCall (cal fV__law_numbers) [(dVar 8), (dVar 2)])))) (sRet (dC (.bl false))) sNil)
 (sIf (dBin fNe (dCall (cal fV__law_mixed) [(dVar 2), (dVar 3), (dVar 5), (dVar 8)]) (dUn fTuple (dComp (iRange1 (dVar 3)) [none] (bName 0) (dC (.bl true)) (dC (.int 0))))) (sRet (dC (.bl false))) sNil))
theorem b9_ok {p c : Int} {w : Nat} {ls : List (List Int)} {l : List Int} (hP : IsPr p) (hw : w ≤ 12) (hm : ls.length ≤ 12) (hR : ∀ l ∈ ls, Rw p w l) (hl : Rw p ls.length l) (h0 : ∀ r ∈ cols w ls, p ∣ dot l r) (x6 x7 : Option SV) (μ : Store) :
  b9 [none, some (.val (.int c)), some (.val (.int p)), some (.val (.int w)), some (.val (.int ls.length)), some (.val (.lst (ls.map tu))), x6, x7, some (.val (li l)), none] μ =
   .nx [none, some (.val (.int c)), some (.val (.int p)), some (.val (.int w)), some (.val (.int ls.length)), some (.val (.lst (ls.map tu))), x6, x7, some (.val (li l)), none] μ := by
 have hb := hP.pos
 have h1 := numbers_ok' hl (.val (li l)) (li l) μ rfl rfl
 have h2 := mixed_ok' (by omega) (by omega) hR hl (by omega) (by omega) (.val (.lst (ls.map tu))) (.val (li l)) μ (fun _ => rfl) (fun _ => rfl)
 rw [mix_nought (by omega) h0] at h2
 have h3 := zeros_ok w (by omega) none (some (.val (.int c))) (some (.val (.int p))) (some (.val (.int ls.length))) (some (.val (.lst (ls.map tu)))) x6 x7 (some (.val (li l))) none μ
 have h4 : lenS μ (.val (li l)) = some (.int ls.length) := by rw [lenS_lst, List.length_map, hl.1]
 have h5 : isS .list μ (.val (li l)) = some (.bl true) := rfl
 have h6 : fNe (.tup ((List.replicate w 0).map T.int)) (.tup ((List.replicate w 0).map T.int)) = some (.bl false) := by rw [fNe_intsT]; simp
 have h7 : (!((ls.length : Int) == (ls.length : Int))) = false := by simp
 have h8 : (List.map T.int l).length = ls.length := by rw [List.length_map, hl.1]
 have h2 : fV__law_mixed [.val (.int p), .val (.int w), .val (.lst (ls.map tu)), .val (li l)] μ = .ok (.val (.tup ((List.replicate w 0).map T.int))) μ := h2
 generalize (T.tup ((List.replicate w 0).map T.int)) = z at h2 h3 h6
 unfold b9
 generalize (dUn fTuple (dComp (iRange1 (dVar 3)) [none] (bName 0) (dC (.bl true)) (dC (.int 0)))) = Z at h3 ⊢
 simp (disch := first | decide | omega | assumption) only [stw, stc, Nat.reduceAdd, Nat.reduceSub, dIs_is, h1, h5, h7, h8, h2, h3, h6]
end Fw.k05
namespace Fw.k05
open PySem Fw Fw.H Fw.E Fw.F
theorem s9_ok {p c : Int} {w : Nat} {ls : List (List Int)} {found : List (List Int)} (hP : IsPr p) (hw : w ≤ 12) (hm : ls.length ≤ 12) (hR : ∀ l ∈ ls, Rw p w l) (hF : ∀ l ∈ found, Rw p ls.length l ∧ ∀ r ∈ cols w ls, p ∣ dot l r) (x6 : Option SV) :
  ∃ x8, law_s9 [none, some (.val (.int c)), some (.val (.int p)), some (.val (.int w)), some (.val (.int ls.length)), some (.val (.lst (ls.map tu))), x6, some (.cel 0), none, none] [(true, .lst (found.map li))] =
   .nx [none, some (.val (.int c)), some (.val (.int p)), some (.val (.int w)), some (.val (.int ls.length)), some (.val (.lst (ls.map tu))), x6, some (.cel 0), x8, none] [(true, .lst (found.map li))] := by
 obtain ⟨e', μ', h1, x8, rfl, rfl⟩ := forL_nx (same := fun μ' => rd μ' (.cel 0) = some (.lst (found.map li))) (b := bName 8) (body := b9) (ts := found.map li)
  (e := [none, some (.val (.int c)), some (.val (.int p)), some (.val (.int w)), some (.val (.int ls.length)), some (.val (.lst (ls.map tu))), x6, some (.cel 0), none, none]) (μ := [(true, .lst (found.map li))])
  (fun i e μ' => ∃ x8, e = [none, some (.val (.int c)), some (.val (.int p)), some (.val (.int w)), some (.val (.int ls.length)), some (.val (.lst (ls.map tu))), x6, some (.cel 0), x8, none] ∧ μ' = [(true, .lst (found.map li))])
  (fun i e μ' hX11_ => by obtain ⟨_, _, h⟩ := hX11_; rw [h]; rfl) (fun i t e μ' ht hX21_ => by
   obtain ⟨x8, he, hμ⟩ := hX21_
   subst he hμ
   rw [List.getElem?_map] at ht
   obtain ⟨l, hq, rfl⟩ := Option.map_eq_some_iff.mp ht
   obtain ⟨g1, g2⟩ := hF l (List.mem_of_getElem? hq)
   exact ⟨_, _, _, rfl, b9_ok hP hw hm hR g1 g2 x6 (some (.cel 0)) _, _, rfl, rfl⟩) ⟨none, rfl, rfl⟩
 refine ⟨x8, ?_⟩
 unfold law_s9
 have h2 : forL (fun μ' => rd μ' (.cel 0) = some (.lst (found.map li))) (bName 8) b9 (found.map li) [none, some (.val (.int c)), some (.val (.int p)), some (.val (.int w)), some (.val (.int ls.length)), some (.val (.lst (ls.map tu))), x6, some (.cel 0), none, none] [(true, .lst (found.map li))] = _ := h1
 unfold b9 at h2
 simp (disch := first | decide | omega | assumption) only [stw, stc, Nat.reduceAdd, Nat.reduceSub, seqItems]
 exact h2
theorem lawB_ok {p c : Int} {w : Nat} {ls : List (List Int)} (hP : IsPr p) (hw : w ≤ 12) (hm : ls.length ≤ 12) (hR : ∀ l ∈ ls, Rw p w l) : ∃ (found : List (List Int)) (x6 x8 : Option SV),
  lawB [none, some (.val (.int c)), some (.val (.int p)), some (.val (.int w)), some (.val (.int ls.length)), some (.val (.lst (ls.map tu))), none, none, none, none] [] =
   .nx [none, some (.val (.int c)), some (.val (.int p)), some (.val (.int w)), some (.val (.int ls.length)), some (.val (.lst (ls.map tu))), x6, some (.cel 0), x8, some (.val (.int found.length))] [(true, .lst (found.map li))] ∧
  found.length ≤ ls.length ∧ (∀ l ∈ found, l.length = ls.length) ∧
  ∀ μ, ∃ found2 : List (List Int), found2.length = found.length ∧ fV_nought_sums [.val (.int p), .val (.int w), .val (.lst (ls.map tu))] μ = .ok (.val (.lst (found2.map li))) μ := by
 have hb := hP.pos
 obtain ⟨lds, ns, hD, _, E⟩ := nsD_ok hP hR (by omega) (by omega) (.val (.lst (ls.map tu))) [] rfl
 obtain ⟨r, hr1, hr2⟩ := newT_ok hP (by omega) hR (by omega) tu (fun _ => rfl) (.val (.lst (ls.map tu))) [(true, .lst (((freeOf ls.length lds).map fun f => nv p ls.length lds f).map li))] (fun _ => rfl)
 have hk := nought_many hP (by omega) (by omega) hR hr2 E
 have hF : ∀ l ∈ (freeOf ls.length lds).map fun f => nv p ls.length lds f, Rw p ls.length l ∧ ∀ r ∈ cols w ls, p ∣ dot l r := fun l hl => by
  obtain ⟨f, hf, rfl⟩ := List.mem_map.mp hl
  exact ⟨nv_rw (by omega) _ _ _, nv_nought (by omega) E hf⟩
 have K := (nv_kept (p := p) (m := ls.length) (ls := lds) (by omega)).count (by omega)
 rw [List.length_map] at K
 have hlen : ((freeOf ls.length lds).map fun f => nv p ls.length lds f).length = (freeOf ls.length lds).length := List.length_map _
 have hD : fD_nought_sums [.val (.int p), .val (.int w), .val (.lst (ls.map tu))] [] = .ok (.cel 0) [(true, .lst (((freeOf ls.length lds).map fun f => nv p ls.length lds f).map li))] := by
  rw [List.map_map]; exact hD
 have fin : ∀ μ, ∃ found2 : List (List Int), found2.length = ((freeOf ls.length lds).map fun f => nv p ls.length lds f).length ∧ fV_nought_sums [.val (.int p), .val (.int w), .val (.lst (ls.map tu))] μ = .ok (.val (.lst (found2.map li))) μ := fun μ => by
  obtain ⟨lds2, ns2, _, h2, E2⟩ := nsD_ok hP hR (by omega) (by omega) (.val (.lst (ls.map tu))) μ rfl
  have hk2 := nought_many hP (by omega) (by omega) hR hr2 E2
  refine ⟨(freeOf ls.length lds2).map fun f => nv p ls.length lds2 f, by rw [hlen, List.length_map]; omega, ?_⟩
  rw [List.map_map]; exact h2
 generalize ((freeOf ls.length lds).map fun f => nv p ls.length lds f) = found at hr1 hF K hlen hD fin
 obtain ⟨r2, hr3, hr4⟩ := newT_ok (w := ls.length) hP (by omega) (fun l h => (hF l h).1) (by omega) li (fun _ => rfl) (.cel 0) [(true, .lst (found.map li))] (fun _ => rfl)
 have e2 : r2 = found.length := by rw [hlen]; exact rank_one (by omega) hr4 K
 obtain ⟨x8, h9⟩ := s9_ok (c := c) hP hw hm hR hF (some (.val (.lst (ls.map tu))))
 refine ⟨found, some (.val (.lst (ls.map tu))), x8, ?_, by omega, fun l h => (hF l h).1.1, fin⟩
 have c1 : (!((found.length : Int) == (ls.length : Int) - (r : Int))) = false := by
  have : (found.length : Int) = (ls.length : Int) - (r : Int) := by omega
  simp [this]
 have c2 : (!((r2 : Int) == (found.length : Int))) = false := by simp [e2]
 have l1 : lenS [(true, T.lst (found.map li))] (.cel 0) = some (.int found.length) := by rw [lenS_of (μ := [(true, T.lst (found.map li))]) (x := .cel 0) rfl, List.length_map]
 have i1 : isS .list [(true, T.lst (found.map li))] (.cel 0) = some (.bl true) := rfl
 unfold lawB law_s6 law_s7 law_s8 law_s10 law_s11
 simp (disch := first | decide | omega | assumption) only [stw, stc, Nat.reduceAdd, Nat.reduceSub, dIs_is, hD, fNe_rows, i1, l1, hr1, c1, h9, hr3, c2]
theorem lawC_ok {p : Int} {w : Nat} {ls : List (List Int)} {n : Nat} (hn : n ≤ 100) (fin : ∀ μ, ∃ found2 : List (List Int), found2.length = n ∧ fV_nought_sums [.val (.int p), .val (.int w), .val (.lst (ls.map tu))] μ = .ok (.val (.lst (found2.map li))) μ) (ts : List T) (ht : ts.length = n) :
  ∃ μ', lawC (E12 p w n ls) [(true, .lst ts)] = .rt (.val (.bl true)) μ' := by
 obtain ⟨f2, h1, h2⟩ := fin [(true, .lst (ts ++ [.lst []]))]
 refine ⟨[(true, .lst (ts ++ [.lst []]))], ?_⟩
 have ha : appendAt (.cel 0) (.lst []) [(true, T.lst ts)] = some [(true, T.lst (ts ++ [.lst []]))] := append_st0 [] [] ts (.lst []) (by unfold szL; omega)
 have hl : lsts (.cel 0) [(true, T.lst ts)] = some () := lsts_at (b := true) (ts := ts) rfl
 have c1 : ((f2.map li).length : Int) = (n : Int) := by rw [List.length_map, h1]
 have c2 : ((n : Int) == (n : Int)) = true := by simp
 unfold lawC law_s13 law_s14 E12
 rw [rws_is]
 simp (disch := first | decide | omega | assumption) only [stw, stc, Nat.reduceAdd, Nat.reduceSub, hl, ha, h2, c1, c2]
theorem holds (ns : List Int) (hl : ns.length ≤ 63) : Hlaw ns := by
 obtain ⟨c, p, w, m, ls, hA, hP, hw, hm, rfl, hR⟩ := lawA_ok ns
 obtain ⟨found, x6, x8, hB, h1, h2, fin⟩ := lawB_ok (c := c) hP hw hm hR
 refine ⟨c, p, w, ls.length, found.length, ls, found, x6, x8, hA, hB, fun e => ?_, by omega, fun l h => by rw [h2 l h]; omega, fun ts ht => lawC_ok (by omega) fin ts ht⟩
 rw [e] at h1
 exact List.eq_nil_of_length_eq_zero (by simpa using h1)
end Fw.k05
open PySem PySem.W PyProof.Rows
set_option maxRecDepth 100000 in
set_option maxHeartbeats 0 in
theorem PySem.Challenge.cw_fewopen_k05_nought_sums_told_holds : PySem.Challenge.rw_fewopen_k05_nought_sums_told.Holds := by
 w_on; o_law; k_head; (case hw => w_witness2)
 k_fill
 refine Fw.k05.walk (l := PySem.Challenge.rw_fewopen_k05_nought_sums_told) rfl rfl (fun w h Y => PySem.W.kIn_of Y) ?F
 case F =>
  intro w mg fa h KX G hmg
  refine' Fw.k05.all_mk Fw.k05.holds ?nl KX G hmg ?a0 ?l0 ?c0 ?k0 ?a1 ?l1 ?c1 ?k1 ?a2 ?l2 ?c2 ?k2 ?a3 ?l3 ?c3 ?k3 ?a4 ?l4 ?c4 ?k4 ?a5 ?l5 ?c5 ?k5 ?a6 ?l6 ?c6 ?k6 ?a7 ?l7 ?c7 ?k7 ?a8 ?l8 ?c8 ?k8 ?a9 ?l9 ?c9 ?k9 ?a10 ?l10 ?c10 ?k10 ?a11 ?l11 ?c11 ?k11 ?a12 ?l12 ?c12 ?k12 ?a13 ?l13 ?c13 ?k13 ?a14 ?l14 ?c14 ?k14 ?a15 ?l15 ?c15 ?k15 ?a16 ?l16 ?c16 ?k16 ?z0 ?z1 ?z2 ?z3 ?z4 ?z5 ?z6 ?z7 ?z8
  (case nl => exact (rfl : true = true))
  (case a0 => k_is)
  (case l0 => k_is)
  (case c0 => k_is)
  (case k0 => k_is)
  (case a1 => k_is)
  (case l1 => k_is)
  (case c1 => k_is)
  (case k1 => k_is)
  (case a2 => k_is)
  (case l2 => k_is)
  (case c2 => k_is)
  (case k2 => k_is)
  (case a3 => k_is)
  (case l3 => k_is)
  (case c3 => k_is)
  (case k3 => k_is)
  (case a4 => k_is)
  (case l4 => k_is)
  (case c4 => k_is)
  (case k4 => k_is)
  (case a5 => k_is)
  (case l5 => k_is)
  (case c5 => k_is)
  (case k5 => k_is)
  (case a6 => k_is)
  (case l6 => k_is)
  (case c6 => k_is)
  (case k6 => k_is)
  (case a7 => k_is)
  (case l7 => k_is)
  (case c7 => k_is)
  (case k7 => k_is)
  (case a8 => k_is)
  (case l8 => k_is)
  (case c8 => k_is)
  (case k8 => k_is)
  (case a9 => k_is)
  (case l9 => k_is)
  (case c9 => k_is)
  (case k9 => k_is)
  (case a10 => k_is)
  (case l10 => k_is)
  (case c10 => k_is)
  (case k10 => k_is)
  (case a11 => k_is)
  (case l11 => k_is)
  (case c11 => k_is)
  (case k11 => k_is)
  (case a12 => k_is)
  (case l12 => k_is)
  (case c12 => k_is)
  (case k12 => k_is)
  (case a13 => k_is)
  (case l13 => k_is)
  (case c13 => k_is)
  (case k13 => k_is)
  (case a14 => k_is)
  (case l14 => k_is)
  (case c14 => k_is)
  (case k14 => k_is)
  (case a15 => k_is)
  (case l15 => k_is)
  (case c15 => k_is)
  (case k15 => k_is)
  (case a16 => k_is)
  (case l16 => k_is)
  (case c16 => k_is)
  (case k16 => k_is)
  (case z0 => k_is)
  (case z1 => k_is)
  (case z2 => k_is)
  (case z3 => k_is)
  (case z4 => k_is)
  (case z5 => k_is)
  (case z6 => k_is)
  (case z7 => k_is)
  (case z8 => k_is)
