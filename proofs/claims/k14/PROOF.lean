import PyProof.Rows.All
import Wide.All
import OpenK.AllK
import Wide.FinOn
import Lean
import PyProof.EqAt
import PyProof.EqKinds
import PyProof.TupleCall
import PyProof.NeData
import PyProof.P3Eq
import PyProof.ConsumeWalk
import PyProof.ZipIter
import PyProof.DictItemsLoops
import KE.KDictList
import KE.KPairComp
import PyProof.Draws
import PyProof.EnumMake
import PyProof.EnumFor
import PyProof.ListRange
import PyProof.ListMulAny
import KE.KRevIter
import PyProof.Rows.SortShell
import PyProof.StrCalls2
import PyProof.StrCalls3
import PyProof.FString
import PyProof.Rows.FStr
import PyProof.CallType
import PyProof.EnumStmt
import PyProof.Rows.CallKwBuiltin
import PyProof.Rows.SetFrom
import PyProof.FactsAll.set_1
import PyProof.FactsAll.set_2
import PyProof.CollectWalk
import PyProof.TupleIter
import PyProof.ForAny
import PyProof.DictWalks
import PyProof.ListStr
import PyProof.ListNew
import PyProof.StrCalls6
import PyProof.ToksMono
import PyProof.StrLaws
import PyProof.StrLawsIn
import KE.IntTextLaws
import PyProof.StrLawsTight
import PySem.Challenge.RW_fewopen_k14_hands_of_rules
set_option compiler.extract_closed false
set_option bootstrap.genMatcherCode false
set_option genSizeOf false
set_option Elab.async false
set_option linter.all false
set_option maxRecDepth 100000
namespace L2
open PySem PySem.Spec PyProof.Rows
noncomputable abbrev Key := Sum Int Str
noncomputable def keyIs : Key → Value → Bool
 | .inl k, v => Value.isInt k v
 | .inr x, v => Value.isStrOf x v
noncomputable def keyH (w : World) : Key → Int
 | .inl k => hashInt k
 | .inr x => hashStr w x
theorem keyIs_shape : ∀ {k : Key} {v : Value}, keyIs k v = true → (∃ i t, k = Sum.inl i ∧ v = Value.int i t) ∨ (∃ x t, k = Sum.inr x ∧ v = Value.str x t)
 | .inl i, v, h => by
  obtain ⟨t, e⟩ := Value.isInt_shape (k := i) (v := v) h
  exact .inl ⟨i, t, rfl, e⟩
 | .inr x, v, h => by
  obtain ⟨t, e⟩ := Value.isStrOf_shape (x := x) (v := v) h
  exact .inr ⟨x, t, rfl, e⟩
theorem key_ll (a b : Int) : decide ((Sum.inl a : Key) = Sum.inl b) = (a == b) := by
 by_cases e : a = b
 ·subst e; simp
 ·have h : ¬ (Sum.inl a : Key) = Sum.inl b := fun q => e (Sum.inl.inj q)
  rw [decide_eq_false h]
  exact (beq_eq_false_iff_ne.mpr e).symm
theorem key_rr (a b : Str) : decide ((Sum.inr a : Key) = Sum.inr b) = decide (a = b) := by
 by_cases e : a = b
 ·subst e; simp
 ·have h : ¬ (Sum.inr a : Key) = Sum.inr b := fun q => e (Sum.inr.inj q)
  rw [decide_eq_false h, decide_eq_false e]
theorem key_lr (a : Int) (b : Str) : decide ((Sum.inl a : Key) = Sum.inr b) = false := decide_eq_false (fun q => nomatch q)
theorem key_rl (a : Str) (b : Int) : decide ((Sum.inr a : Key) = Sum.inl b) = false := decide_eq_false (fun q => nomatch q)
noncomputable def mixKind (prog : Program) (w : World) : PySem.KeyKind prog w Key where
 is := keyIs
 hash := keyH w
 inj := fun v a b ha hb => by
  rcases keyIs_shape ha with ⟨i, t, rfl, rfl⟩ | ⟨x, t, rfl, rfl⟩
  ·rcases keyIs_shape hb with ⟨j, u, rfl, e⟩ | ⟨y, u, rfl, e⟩
   ·injection e with e1 _; rw [e1]
   ·exact nomatch e
  ·rcases keyIs_shape hb with ⟨j, u, rfl, e⟩ | ⟨y, u, rfl, e⟩
   ·exact nomatch e
   ·injection e with e1 _; rw [e1]
 byValue := fun k v h => by
  rcases keyIs_shape h with ⟨i, t, rfl, rfl⟩ | ⟨x, t, rfl, rfl⟩ <;> rfl
 pyHash := fun hv h => by
  rcases keyIs_shape hv with ⟨i, t, rfl, rfl⟩ | ⟨x, t, rfl, rfl⟩
  ·exact wpAny_pyHash_int h
  ·exact wpAny_pyHash_str h
 eqBool := fun hu hv h => by
  rcases keyIs_shape hu with ⟨i, t, rfl, rfl⟩ | ⟨x, t, rfl, rfl⟩
  ·rcases keyIs_shape hv with ⟨j, u, rfl, rfl⟩ | ⟨y, u, rfl, rfl⟩
   ·rw [key_ll] at h; exact wpAny_eqBool_int h
   ·rw [key_lr] at h; exact SeqAt.EqAt.int_str i t y u _ _ _ _ h
  ·rcases keyIs_shape hv with ⟨j, u, rfl, rfl⟩ | ⟨y, u, rfl, rfl⟩
   ·rw [key_rl] at h; exact SeqAt.EqAt.str_int x t j u _ _ _ _ h
   ·rw [key_rr] at h; exact wpAny_eqBool_str h
 «strs» := fun k x t v h => by
  rcases keyIs_shape h with ⟨i, u, rfl, e⟩ | ⟨y, u, rfl, e⟩
  ·exact nomatch e
  ·injection e with e1 _
   subst e1
   cases v <;> rfl
end L2
namespace L2
open PySem PySem.Spec PyProof.Rows
inductive V where
 | non | bl (b : Bool) | int (i : Int) | str (x : Str) | byt (b : Array UInt8) | flt (b : UInt64) | ref (a : Addr) | ty (n : String)
 deriving DecidableEq
noncomputable def RelV : V → Value → Prop
 | .non, u => u = Value.none
 | .bl b, u => u = Value.bool b
 | .int i, u => ∃ t, u = Value.int i t
 | .str x, u => ∃ t, u = Value.str x t
 | .byt b, u => ∃ t, u = Value.bytes b t
 | .flt b, u => ∃ t, u = Value.float b t
 | .ref a, u => u = Value.ref a
 | .ty n, u => u = Value.type n
noncomputable abbrev Vals : List V → List Value → Prop := Paired RelV
theorem Vals.length {xs : List V} {us : List Value} (r : Vals xs us) : xs.length = us.length := Paired.length r
theorem Vals.get : ∀ {xs : List V} {us : List Value} {i : Nat} {x : V}, Vals xs us → xs[i]? = some x → ∃ u, us[i]? = some u ∧ RelV x u
 | _, _, _, _, .nil, e => by simp at e
 | _, _, 0, _, .cons r _, e => by simp at e; subst e; exact ⟨_, rfl, r⟩
 | _, _, i + 1, x, .cons _ t, e => by
  obtain ⟨u, h1, h2⟩ := Vals.get (i := i) (x := x) t (by simpa using e)
  exact ⟨u, by simpa using h1, h2⟩
theorem Vals.set {x : V} {u : Value} (r : RelV x u) : ∀ {xs : List V} {us : List Value} (i : Nat), Vals xs us → Vals (xs.set i x) (us.set i u)
 | _, _, _, .nil => .nil
 | _, _, 0, .cons _ t => .cons r t
 | _, _, i + 1, .cons q t => .cons q (Vals.set r i t)
theorem Vals.append : ∀ {xs ys : List V} {us ws : List Value}, Vals xs us → Vals ys ws → Vals (xs ++ ys) (us ++ ws)
 | _, _, _, _, .nil, s => s
 | _, _, _, _, .cons r t, s => .cons r (Vals.append t s)
theorem Vals.drop : ∀ {xs : List V} {us : List Value} (n : Nat), Vals xs us → Vals (xs.drop n) (us.drop n)
 | _, _, 0, r => r
 | _, _, _ + 1, .nil => .nil
 | _, _, n + 1, .cons _ t => Vals.drop n t
noncomputable def RelO : Option V → Option Value → Prop
 | some v, some u => RelV v u
 | none, none => True
 | _, _ => False
noncomputable def KV {κ : Type} : List (κ × V) → List (κ × Value) → Prop := Paired fun (p : κ × V) (q : κ × Value) => p.1 = q.1 ∧ RelV p.2 q.2
noncomputable def kV : Key → V
 | .inl i => .int i
 | .inr x => .str x
inductive HO where
 | lst (xs : List V)
 | tup (xs : List V)
 | dK (kvs : List (Key × V)) | dT (kvs : List (List Key × V))
 | set (S : Int → Bool) (n : Nat)
 | ins (C dx : Addr) (fs : List (Str × V))
 | own (x : Addr)
 | xd (fs : List (Str × V))
 | met (f x : Addr)
 | rng (lo hi : Int)
 | frz (o : Obj) (u : HO)
 | tbl (ps : Array Value)
 | ext (φ : Heap → Prop)
noncomputable abbrev Hp := Addr → Option HO
noncomputable def upd (H : Hp) (a : Addr) (o : HO) : Hp := fun b => if b = a then some o else H b
theorem upd_same {H : Hp} {a : Addr} {o : HO} : upd H a o a = some o := by unfold upd; rw [if_pos rfl]
theorem upd_ne {H : Hp} {a b : Addr} {o : HO} (h : b ≠ a) : upd H a o b = H b := by unfold upd; rw [if_neg h]
theorem ne_of_none {H : Hp} {a b : Addr} {o : HO} (h : H a = some o) (h' : H b = none) : a ≠ b := by
 intro e; subst e; rw [h] at h'; cases h'
section
variable (P : Program) (w : World)
noncomputable def ObjOk (H : Hp) (h : Heap) (a : Addr) : HO → Prop
 | .lst xs => xs.length ≤ sizeLine ∧ ∃ (its : List Value) (n : Nat), Vals xs its ∧ h.get? a = some { cls := .type "list", data := .seq its.toArray n }
 | .tup xs => xs.length ≤ sizeLine ∧ ∃ its : List Value, Vals xs its ∧ IsTup h a its.toArray
 | .dK kvs => kvs.length ≤ sizeLine ∧ (a == sysModules) = false ∧ ∃ vs, KV kvs vs ∧ h.DictAt (mixKind P w) a vs vs.length
 | .dT kvs => kvs.length ≤ sizeLine ∧ (a == sysModules) = false ∧ ∃ xs : List (List Key × Addr × Value),
   Paired (fun (p : List Key × V) (q : List Key × Addr × Value) => p.1 = q.1 ∧ H q.2.1 = some (.tup (p.1.map kV)) ∧ RelV p.2 q.2.2) kvs xs ∧
   ∃ o es ep, h.get? a = some o ∧ o.ExactDict ∧ o.data = .dict es ep ∧ es.toList = xs.map (entryOfKey (tupleKind (mixKind P w))) ∧ (xs.map (·.1)).Nodup
 | .set S n => h.SetOf (intKind P w) a S n
 | .ins C dx fs => H dx = some (.own a) ∧ fs.length ≤ 1000 ∧ dx ≠ a ∧ h.get? a = some (PySem.W.instObj C dx) ∧
   ∃ mA, h.Ns1 dx mA ∧ (∀ f, RelO (fs.lookup f) (mA f)) ∧ PySem.Within mA (fs.map (·.1))
 | .own _ => ∃ o, h.get? a = some o
 | .xd fs => ∃ mA, h.Ns1 a mA ∧ ∀ f, RelO (fs.lookup f) (mA f)
 | .rng lo hi => ∃ t u v, h.get? a = some { cls := .type "range", data := .fields #[.int lo t, .int hi u, .int 1 v] }
 | .frz o u => h.get? a = some o ∧ ObjOk H h a u
 | .tbl ps => h.get? a = some { cls := .none, data := .fields ps }
 | .met f x => h.get? a = some (PySem.W.methodObj (.ref f) (.ref x))
 | .ext φ => φ h ∧ (∃ o, h.get? a = some o) ∧ ∀ h1 h2 : Heap, φ h1 → (∀ o, h1.get? a = some o → h2.get? a = some o) → φ h2
noncomputable def HOk (H : Hp) (h : Heap) : Prop := ∀ a o, H a = some o → ObjOk P w H h a o
end
section
variable {P : Program} {w : World} {H H' : Hp} {h h' : Heap} {a : Addr} {o : HO}
theorem ObjOk.lt (x : ObjOk P w H h a o) : a < h.objs.size := by
 cases o with
 | lst xs => obtain ⟨_, _, _, _, e⟩ := x; exact Heap.lt_size e
 | tup xs => obtain ⟨_, _, _, p⟩ := x; exact p.lt
 | dK kvs => obtain ⟨_, _, _, _, o, _, e, _⟩ := x; exact Heap.lt_size e
 | dT kvs => obtain ⟨_, _, _, _, o, _, _, e, _⟩ := x; exact Heap.lt_size e
 | set S n => obtain ⟨o, _, _, _, e, _⟩ := x; exact Heap.lt_size e
 | ins C dx fs => obtain ⟨_, _, _, e, _⟩ := x; exact Heap.lt_size e
 | own y => obtain ⟨_, e⟩ := x; exact Heap.lt_size e
 | xd fs => obtain ⟨_, ⟨_, _, _, e, _⟩, _⟩ := x; exact Heap.lt_size e
 | rng lo hi => obtain ⟨_, _, _, e⟩ := x; exact Heap.lt_size e
 | frz ob u => obtain ⟨e, _⟩ := x; exact Heap.lt_size e
 | tbl ps => exact Heap.lt_size (show h.get? a = some _ from x)
 | met f y => exact Heap.lt_size (show h.get? a = some _ from x)
 | ext φ => obtain ⟨_, ⟨_, e⟩, _⟩ := x; exact Heap.lt_size e
theorem Paired.mapP {α β : Type} {F G : α → β → Prop} : ∀ {l₁ : List α} {l₂ : List β}, Paired F l₁ l₂ → (∀ a b, F a b → G a b) → Paired G l₁ l₂
 | _, _, .nil, _ => .nil
 | _, _, .cons r t, f => .cons (f _ _ r) (Paired.mapP t f)
theorem Paired.imp' {α β : Type} {F G : α → β → Prop} (f : ∀ a b, F a b → G a b) {l₁ : List α} {l₂ : List β} (r : Paired F l₁ l₂) : Paired G l₁ l₂ := Paired.mapP r f
theorem ObjOk.stay (x : ObjOk P w H h a o) (k : ∀ b u, (b = a ∨ H b = some (.own a)) → h.get? b = some u → h'.get? b = some u)
  (ho : ∀ b, H b = some (.own a) → H' b = some (.own a)) (ht : ∀ b xs, H b = some (.tup xs) → H' b = some (.tup xs)) : ObjOk P w H' h' a o := by
 induction o with
 | lst xs => obtain ⟨z, its, n, r, e⟩ := x; exact ⟨z, its, n, r, k _ _ (.inl rfl) e⟩
 | tup xs => obtain ⟨z, its, r, ob, e, c⟩ := x; exact ⟨z, its, r, ob, k _ _ (.inl rfl) e, c⟩
 | dK kvs => obtain ⟨z, y, vs, r, ob, es, e, c⟩ := x; exact ⟨z, y, vs, r, ob, es, k _ _ (.inl rfl) e, c⟩
 | dT kvs =>
  obtain ⟨z, y, xs, r, ob, es, ep, e, c⟩ := x
  exact ⟨z, y, xs, Paired.mapP r fun p q z => ⟨z.1, ht _ _ z.2.1, z.2.2⟩, ob, es, ep, k _ _ (.inl rfl) e, c⟩
 | set S n => obtain ⟨ob, es, ep, t, e, c⟩ := x; exact ⟨ob, es, ep, t, k _ _ (.inl rfl) e, c⟩
 | ins C dx fs =>
  obtain ⟨d, z, ne, e, mA, ⟨od, es, ep, e2, c⟩, r⟩ := x
  exact ⟨ho _ d, z, ne, k _ _ (.inl rfl) e, mA, ⟨od, es, ep, k _ _ (.inr d) e2, c⟩, r⟩
 | own y => obtain ⟨ob, e⟩ := x; exact ⟨ob, k _ _ (.inl rfl) e⟩
 | xd fs => obtain ⟨mA, ⟨od, es, ep, e, c⟩, r⟩ := x; exact ⟨mA, ⟨od, es, ep, k _ _ (.inl rfl) e, c⟩, r⟩
 | rng lo hi => obtain ⟨t, u, v, e⟩ := x; exact ⟨t, u, v, k _ _ (.inl rfl) e⟩
 | frz ob u ih => obtain ⟨e, q⟩ := x; exact ⟨k _ _ (.inl rfl) e, ih q⟩
 | tbl ps =>
  have e : h.get? a = some { cls := .none, data := .fields ps } := x
  show h'.get? a = some { cls := .none, data := .fields ps }
  exact k a _ (.inl rfl) e
 | met f y =>
  have e : h.get? a = some (PySem.W.methodObj (.ref f) (.ref y)) := x
  show h'.get? a = some (PySem.W.methodObj (.ref f) (.ref y))
  exact k a _ (.inl rfl) e
 | ext φ => obtain ⟨p, ⟨o, e⟩, st⟩ := x; exact ⟨st _ _ p fun o q => k _ _ (.inl rfl) q, ⟨o, k _ _ (.inl rfl) e⟩, st⟩
theorem HOk.lt (x : HOk P w H h) (e : H a = some o) : a < h.objs.size := (x a o e).lt
theorem HOk.fresh (x : HOk P w H h) (e : h.objs.size ≤ a) : H a = none := by
 cases q : H a with
 | none => rfl
 | some u => exact absurd (Nat.lt_of_lt_of_le (x.lt q) e) (Nat.lt_irrefl _)
theorem HOk.kept (x : HOk P w H h) (k : ∀ b u, h.get? b = some u → h'.get? b = some u) : HOk P w H h' := fun a o e =>
 (x a o e).stay (fun b u _ q => k b u q) (fun _ q => q) fun _ _ q => q
theorem HOk.laid (x : HOk P w H h) (k : ∀ b u, h.get? b = some u → h'.get? b = some u) (hp : h.objs.size ≤ a) (new : ObjOk P w (upd H a o) h' a o) : HOk P w (upd H a o) h' := fun b u e => by
 have hn := x.fresh hp
 by_cases hb : b = a
 ·subst hb; rw [upd_same] at e; cases e; exact new
 ·rw [upd_ne hb] at e
  exact (x b u e).stay (fun c v _ q => k c v q) (fun c q => by rw [upd_ne (ne_of_none q hn)]; exact q) fun c xs q => by rw [upd_ne (ne_of_none q hn)]; exact q
end
noncomputable def Rd (H : Hp) (a : Addr) (u : HO) : Prop := H a = some u ∨ ∃ o, H a = some (.frz o u)
theorem Rd.ok {P : Program} {w : World} {H : Hp} {h : Heap} {a : Addr} {u : HO} (r : Rd H a u) (x : HOk P w H h) : ObjOk P w H h a u := by
 rcases r with r | ⟨o, r⟩
 ·exact x a u r
 ·obtain ⟨_, q⟩ := x a _ r
  exact q
noncomputable def Mut : Option HO → Prop
 | some (.lst _) => True
 | some (.dK _) => True
 | some (.dT _) => True
 | some (.set _ _) => True
 | some (.ins _ _ _) => True
 | some (.ext _) => True
 | _ => False
section
variable {P : Program} {w : World} {H : Hp} {h h' : Heap} {x e : Addr} {o' : HO}
theorem HOk.write (ok : HOk P w H h) (mu : Mut (H x)) (he : e = x ∨ H e = some (.own x)) (k : ∀ b u, b ≠ e → h.get? b = some u → h'.get? b = some u) (heo : ∃ u, h'.get? e = some u)
  (new : ObjOk P w (upd H x o') h' x o') : HOk P w (upd H x o') h' := fun b u q => by
 have nown : ∀ c y, H c = some (.own y) → c ≠ x := fun c y r z => by subst z; rw [r] at mu; exact mu
 have ntup : ∀ c xs, H c = some (.tup xs) → c ≠ x := fun c xs r z => by subst z; rw [r] at mu; exact mu
 by_cases hb : b = x
 ·subst hb; rw [upd_same] at q; cases q; exact new
 ·rw [upd_ne hb] at q
  by_cases hbe : b = e
  ·have q' : H b = some (.own x) := by
    rcases he with z | z
    ·exact absurd (hbe.trans z) hb
    ·rw [hbe]; exact z
   rw [q] at q'; cases q'
   obtain ⟨v, hv⟩ := heo
   exact ⟨v, by rw [hbe]; exact hv⟩
  ·refine (ok b u q).stay (fun c v hc r => k c v ?_ r) (fun c r => by rw [upd_ne (nown c b r)]; exact r) fun c xs r => by rw [upd_ne (ntup c xs r)]; exact r
   rcases hc with rfl | hc
   ·exact hbe
   ·rintro rfl
    rcases he with z | z
    ·exact nown c b hc z
    ·rw [hc] at z; cases z; exact hb rfl
end
structure Un (fs ex : List Addr) (H H' : Hp) (h h' : Heap) : Prop where
 keep : ∀ b o, h.get? b = some o → H b = none → b ∉ fs → b ∉ ex → h'.get? b = some o
 slot : ∀ b o, h.get? b = some o → H b = none → b ∈ fs → b ∉ ex → ∃ sl, h'.get? b = some { o with slots := sl }
 free : ∀ b o, h.get? b = some o → H b = none → b ∉ ex → H' b = none
 there : ∀ b o, h.get? b = some o → b ∉ ex → ∃ o', h'.get? b = some o'
 tups : ∀ b xs, H b = some (.tup xs) → H' b = some (.tup xs)
 frzs : ∀ b o u, H b = some (.frz o u) → H' b = some (.frz o u)
 tbls : ∀ b ps, H b = some (.tbl ps) → ∃ more, H' b = some (.tbl (ps ++ more))
section
variable {fs fs' ex ex' : List Addr} {H H1 H2 : Hp} {h h1 h2 h' : Heap} {a x e : Addr} {o : HO}
theorem Un.any (u : Un fs ex H H1 h h1) {b : Addr} {ob : Obj} (q : h.get? b = some ob) (n : H b = none) (hx : b ∉ ex) : ∃ sl, h1.get? b = some { ob with slots := sl } := by
 by_cases hb : b ∈ fs
 ·exact u.slot b ob q n hb hx
 ·exact ⟨ob.slots, u.keep b ob q n hb hx⟩
theorem Un.kept (k : ∀ b u, h.get? b = some u → h'.get? b = some u) : Un fs ex H H h h' :=
 ⟨fun b ob q _ _ _ => k b ob q, fun b ob q _ _ _ => ⟨ob.slots, k b ob q⟩, fun _ _ _ n _ => n, fun b ob q _ => ⟨ob, k b ob q⟩, fun _ _ q => q, fun _ _ _ q => q, fun _ ps q => ⟨#[], by rw [q]; simp⟩⟩
theorem Un.refl : Un fs ex H H h h := Un.kept fun _ _ q => q
theorem Un.laid (k : ∀ b u, h.get? b = some u → h'.get? b = some u) (hp : h.objs.size ≤ a) (hn : H a = none) : Un fs ex H (upd H a o) h h' where
 keep := fun b u q _ _ _ => k b u q
 slot := fun b u q _ _ _ => ⟨u.slots, k b u q⟩
 free := fun b u q n _ => by rw [upd_ne (Nat.ne_of_lt (Nat.lt_of_lt_of_le (Heap.lt_size q) hp))]; exact n
 there := fun b u q _ => ⟨u, k b u q⟩
 tups := fun b xs q => by rw [upd_ne (ne_of_none q hn)]; exact q
 frzs := fun b u xs q => by rw [upd_ne (ne_of_none q hn)]; exact q
 tbls := fun b ps q => ⟨#[], by rw [upd_ne (ne_of_none q hn), q]; simp⟩
theorem Un.write (mu : Mut (H x)) (he : e = x ∨ H e = some (.own x)) (k : ∀ b u, b ≠ e → h.get? b = some u → h'.get? b = some u) (heo : ∃ u, h'.get? e = some u) : Un fs ex H (upd H x o) h h' := by
 have hx : ∀ b, H b = none → b ≠ x := fun b n z => by subst z; rw [n] at mu; exact mu
 have hb : ∀ b, H b = none → b ≠ e := fun b n z => by
  subst z
  rcases he with r | r
  ·exact hx b n r
  ·rw [n] at r; cases r
 have hm : ∀ b u, H b = some u → ¬ Mut (some u) → b ≠ x := fun b u q nm z => by subst z; rw [q] at mu; exact nm mu
 refine ⟨fun b u q n _ _ => k b u (hb b n) q, fun b u q n _ _ => ⟨u.slots, k b u (hb b n) q⟩, fun b u q n _ => by rw [upd_ne (hx b n)]; exact n, fun b u q _ => ?_,
  fun b xs q => by rw [upd_ne (hm b _ q fun z => z)]; exact q, fun b u xs q => by rw [upd_ne (hm b _ q fun z => z)]; exact q, fun b ps q => ⟨#[], by rw [upd_ne (hm b _ q fun z => z), q]; simp⟩⟩
 by_cases hbe : b = e
 ·subst hbe; exact heo
 ·exact ⟨u, k b u hbe q⟩
end
noncomputable def trk (h : Heap) (H : Hp) : List Addr := (List.range h.objs.size).filter fun a => (H a).isSome
noncomputable def hidT (h : Heap) (H : Hp) : Heap := PySem.W.hideAll h (trk h H)
theorem hidT_size (h : Heap) (H : Hp) : (hidT h H).objs.size = h.objs.size := PySem.W.hideAll_size _ _
theorem hidT_get {h : Heap} {H : Hp} {b : Addr} {o : Obj} (e : h.get? b = some o) (n : H b = none) : (hidT h H).get? b = some o :=
 PySem.W.hideAll_get _ e fun hm => by
  have q : (H b).isSome = true := (List.mem_filter.mp hm).2
  rw [n] at q; simp at q
theorem of_hidT {h : Heap} {H : Hp} {b : Addr} {o : Obj} (e : (hidT h H).get? b = some o) : h.get? b = some o ∧ H b = none := by
 have e' : h.get? b = some o := PySem.W.of_hideAll (trk h H) e
 refine ⟨e', ?_⟩
 cases q : H b with
 | none => rfl
 | some x =>
  have hm : b ∈ trk h H := List.mem_filter.mpr ⟨List.mem_range.mpr (Heap.lt_size e'), by simp [q]⟩
  have z : (hidT h H).get? b = none := PySem.W.hideAll_none (trk h H) hm
  rw [z] at e; cases e
end L2
namespace L2
open PySem PySem.Spec PyProof.Rows
structure Mod (K : PySem.W.Frag) (mg : Str → Option Value) (base : Heap) : Prop where
 kin : K.In base
 glob : base.Ns mainGlobals mg
 blt : ∃ mb, base.Ns builtinsNs mb ∧ ∀ x : Str, x ≠ "__name__" → mb x = bootBuiltins x
 nolimit : base.NoLimit
/-- the context: a def's body (or a comprehension's block) running. base: fixed through the whole law; s₀, H₀: the entry; outer: the frames whose slots others may change (a def's callers); stack: all frames that run;
  ex: iterators that were made ahead of the entry and are walked here (a comprehension's); fn: the names whose cells were made at the entry (a def: all; a comprehension's block: its own); calm: not within an except suite; pn: pins that every state bears; xe: what is wanted of an exception that leaves the code -/
structure Cx where
 prog : Program
 w : World
 K : PySem.W.Frag
 mg : Str → Option Value
 base : Heap
 A : Around
 N : List Str
 s₀ : Shared
 H₀ : Hp
 env : Env
 outer : List Env
 stack : List Env
 ex : List Addr
 fn : Str → Bool
 calm : Bool
 pn : List (Addr × Obj)
 xe : Value → Shared → Prop
noncomputable def frs (l : List Env) : List Addr := l.filterMap (·.frame)
noncomputable abbrev Cx.fs (X : Cx) : List Addr := frs X.outer
noncomputable def Vis (sc : Scope) (x : Str) : Prop := sc.names.lookup x = some .local ∨ sc.names.lookup x = some .cell ∨ sc.names.lookup x = some .free
noncomputable def Loc (sc : Scope) (x : Str) : Prop := sc.names.lookup x = some .local ∨ sc.names.lookup x = some .cell
noncomputable def Look (env : Env) (h : Heap) (m : Str → Option Value) (x : Str) (u : Value) : Prop :=
 (env.kindOf x = some .local ∧ m x = some u) ∨ ((env.kindOf x = some .cell ∨ env.kindOf x = some .free) ∧ ∃ c, env.cells.lookup x = some c ∧ h.IsCell c (some u))
structure Cx.Ok (X : Cx) : Prop where
 mod : Mod X.K X.mg X.base
 kind : X.env.scope.kind = .function
 glob : X.env.globals = mainGlobals
 blt : X.env.builtins = builtinsNs
 above : X.s₀.heap.objs.size ≤ X.env.locals
 inj : ∀ x y c, X.env.cells.lookup x = some c → X.env.cells.lookup y = some c → x = y
 has : ∀ x, (X.env.kindOf x = some .cell ∨ X.env.kindOf x = some .free) → ∃ c, X.env.cells.lookup x = some c
 cab : ∀ x c, X.fn x = true → X.env.cells.lookup x = some c → X.s₀.heap.objs.size ≤ c
 hd : X.calm = true → X.A.handled = none
 frames : X.A.frames = some X.stack
 stk : X.stack = X.outer ∨ (X.stack = X.env :: X.outer ∧ X.env.frame = some X.env.locals)
 exf : ∀ b ∈ X.ex, b ≠ X.env.locals ∧ ∀ x c, X.env.cells.lookup x = some c → c ≠ b
 bs : ∀ b o, X.base.get? b = some o → X.s₀.heap.get? b = some o ∧ X.H₀ b = none
 bsz : X.base.objs.size ≤ X.s₀.heap.objs.size
 noex : ∀ b o, X.base.get? b = some o → b ∉ X.ex
 exfs : ∀ b ∈ X.ex, b ∉ X.fs
 funs : X.s₀.heap.FunFrames X.base X.outer
 frf : ∀ b ∈ X.fs, X.H₀ b = none
structure Inv (X : Cx) (pins : List (Addr × Obj)) (σ : List (Option V)) (H : Hp) (s : Shared) : Prop where
 ok : X.Ok
 os : s.os = X.s₀.os
 bare : AllBare s.gens
 base : Un X.fs X.ex X.H₀ H X.s₀.heap s.heap
 loc : ∃ m, s.heap.Ns X.env.locals m ∧ ∀ (i : Nat) (x : Str) (v : V), X.N[i]? = some x → σ[i]? = some (some v) → Vis X.env.scope x → ∃ u, RelV v u ∧ Look X.env s.heap m x u
 cell : ∀ x c, X.env.cells.lookup x = some c → ∃ v, s.heap.IsCell c v
 free : H X.env.locals = none
 freeC : ∀ x c, X.env.cells.lookup x = some c → H c = none
 pin : ∀ p ∈ X.pn ++ pins, s.heap.get? p.1 = some p.2 ∧ H p.1 = none ∧ p.1 ≠ X.env.locals ∧ p.1 ∉ X.fs ∧ ∀ v, p.2.data ≠ .cell v
 hok : HOk X.prog X.w H s.heap
 len : σ.length = X.N.length
section
variable {X : Cx} {pins : List (Addr × Obj)} {σ : List (Option V)} {H H' : Hp} {s : Shared} {h' : Heap}
theorem Cx.Ok.nofr (ok : X.Ok) {b : Addr} {o : Obj} (e : X.base.get? b = some o) : b ∉ X.fs := fun hb => by
 have := (ok.funs.mem hb).1
 rw [e] at this; cases this
theorem Inv.bs (I : Inv X pins σ H s) : ∀ b o, X.base.get? b = some o → s.heap.get? b = some o ∧ H b = none := fun b o e =>
 ⟨I.base.keep b o (I.ok.bs b o e).1 (I.ok.bs b o e).2 (I.ok.nofr e) (I.ok.noex b o e), I.base.free b o (I.ok.bs b o e).1 (I.ok.bs b o e).2 (I.ok.noex b o e)⟩
theorem Inv.bk (I : Inv X pins σ H s) : ∀ b o, X.base.get? b = some o → s.heap.get? b = some o := fun b o e => (I.bs b o e).1
theorem Inv.mod (I : Inv X pins σ H s) : Mod X.K X.mg X.base := I.ok.mod
theorem Inv.kIn (I : Inv X pins σ H s) : X.K.In s.heap := I.ok.mod.kin.keeps I.bk
theorem Inv.nolimit (I : Inv X pins σ H s) : s.heap.NoLimit := I.ok.mod.nolimit.keeps I.bk
theorem Inv.fr (I : Inv X pins σ H s) : ∃ m, Fr X.base X.env.locals s.heap m :=
 let ⟨m, hn, _⟩ := I.loc
 ⟨m, hn, I.bk, Nat.le_trans I.ok.bsz I.ok.above⟩
theorem Inv.lt (I : Inv X pins σ H s) : X.env.locals < s.heap.objs.size := let ⟨_, hn, _⟩ := I.loc; hn.lt
theorem Inv.sz (I : Inv X pins σ H s) : X.s₀.heap.objs.size ≤ s.heap.objs.size := Nat.le_trans I.ok.above (Nat.le_of_lt I.lt)
theorem Inv.nofs (I : Inv X pins σ H s) {a : Addr} (h : s.heap.objs.size ≤ a) : a ∉ X.fs := fun hb => by
 obtain ⟨_, o, ho, _⟩ := I.ok.funs.mem hb
 exact absurd (Nat.lt_of_lt_of_le (Heap.lt_size ho) (Nat.le_trans I.sz h)) (Nat.lt_irrefl _)
theorem Inv.cne (I : Inv X pins σ H s) : ∀ x c, X.env.cells.lookup x = some c → c ≠ X.env.locals := fun x c e z => by
 obtain ⟨v, o, ho, hd⟩ := I.cell x c e
 obtain ⟨m, ⟨o', es, ep, ho', hd', _⟩, _⟩ := I.loc
 rw [z, ho'] at ho; cases ho; rw [hd'] at hd; cases hd
theorem Inv.funs (I : Inv X pins σ H s) : s.heap.FunFrames X.base X.outer := by
 have all : ∀ (l : List Env), (∀ b ∈ frs l, b ∈ X.fs) → X.s₀.heap.FunFrames X.base l → s.heap.FunFrames X.base l := by
  intro l
  induction l with
  | nil => intro _ _; trivial
  | cons env r ih =>
   intro hs hl
   obtain ⟨hk, ⟨L, o, hf, hn, ho, hd⟩, hr⟩ := hl
   have hL : L ∈ X.fs := hs L (by unfold frs; rw [List.filterMap_cons, hf]; exact List.mem_cons_self)
   obtain ⟨sl, e⟩ := I.base.slot L o ho (I.ok.frf L hL) hL fun z => I.ok.exfs L z hL
   exact ⟨hk, ⟨L, _, hf, hn, e, hd⟩, ih (fun b hb => hs b (by unfold frs; rw [List.filterMap_cons, hf]; exact List.mem_cons_of_mem _ hb)) hr⟩
 exact all X.outer (fun _ hb => hb) I.ok.funs
theorem Inv.stack (I : Inv X pins σ H s) : s.heap.FunFrames X.base X.stack := by
 rcases I.ok.stk with e | ⟨e, hf⟩
 ·rw [e]; exact I.funs
 ·rw [e]
  obtain ⟨m, hn, _⟩ := I.loc
  refine .cons (by rw [I.ok.kind]; decide) hf hn ?_ I.funs
  exact Heap.get?_none_of_le (Nat.le_trans I.ok.bsz I.ok.above)
theorem Inv.stkSub (I : Inv X pins σ H s) : ∀ b ∈ frs X.stack, b ∈ X.env.locals :: X.fs := fun b hb => by
 rcases I.ok.stk with e | ⟨e, hf⟩
 ·rw [e] at hb; exact List.mem_cons_of_mem _ hb
 ·rw [e] at hb
  unfold frs at hb
  rw [List.filterMap_cons, hf] at hb
  exact hb
theorem Inv.stkFree (I : Inv X pins σ H s) : ∀ b ∈ frs X.stack, H b = none := fun b hb => by
 rcases List.mem_cons.mp (I.stkSub b hb) with e | hb
 ·rw [e]; exact I.free
 ·obtain ⟨_, o, ho, _⟩ := I.ok.funs.mem hb
  exact I.base.free b o ho (I.ok.frf b hb) fun z => I.ok.exfs b z hb
theorem Inv.step {g' : Array GenState} {t' : Nat} {d' : Drawn} {ch : List Addr} (I : Inv X pins σ H s)
  (hch : ∀ b ∈ ch, (b ∈ X.ex ∨ X.s₀.heap.objs.size ≤ b) ∧ b ≠ X.env.locals ∧ (∀ x c, X.env.cells.lookup x = some c → c ≠ b) ∧ ∀ p ∈ X.pn ++ pins, p.1 ≠ b)
  (keep : ∀ b o, b ≠ X.env.locals → b ∉ X.fs → b ∉ ch → s.heap.get? b = some o → H b = none → h'.get? b = some o)
  (slot : ∀ b o, b ≠ X.env.locals → b ∈ X.fs → b ∉ ch → s.heap.get? b = some o → H b = none → ∃ sl, h'.get? b = some { o with slots := sl }) (free : ∀ b o, b ∉ ch → s.heap.get? b = some o → H b = none → H' b = none)
  (there : ∀ b o, b ∉ ch → s.heap.get? b = some o → ∃ o', h'.get? b = some o')
  (tups : ∀ b xs, H b = some (.tup xs) → H' b = some (.tup xs)) (frzs : ∀ b o u, H b = some (.frz o u) → H' b = some (.frz o u)) (tbls : ∀ b ps, H b = some (.tbl ps) → ∃ more, H' b = some (.tbl (ps ++ more)))
  (ns : ∀ m, s.heap.Ns X.env.locals m → h'.Ns X.env.locals m) (hok : HOk X.prog X.w H' h') (hg : AllBare g') :
  Inv X pins σ H' { s with heap := h', gens := g', drawn := d', toks := t' } := by
 have neL : ∀ b o, X.s₀.heap.get? b = some o → b ≠ X.env.locals := fun b o e => Nat.ne_of_lt (Nat.lt_of_lt_of_le (Heap.lt_size e) I.ok.above)
 have neC : ∀ b o, X.s₀.heap.get? b = some o → b ∉ X.ex → b ∉ ch := fun b o e hx hb => by
  rcases (hch b hb).1 with z | z
  ·exact hx z
  ·exact absurd (Nat.lt_of_lt_of_le (Heap.lt_size e) z) (Nat.lt_irrefl _)
 have cellK : ∀ x c, X.env.cells.lookup x = some c → ∀ v, s.heap.IsCell c v → h'.IsCell c v := fun x c e v hX11_ => by
  obtain ⟨o, ho, hd⟩ := hX11_
  have nch : c ∉ ch := fun z => (hch c z).2.2.1 x c e rfl
  by_cases hc : c ∈ X.fs
  ·obtain ⟨sl, q⟩ := slot c o (I.cne x c e) hc nch ho (I.freeC x c e)
   exact ⟨_, q, hd⟩
  ·exact ⟨o, keep c o (I.cne x c e) hc nch ho (I.freeC x c e), hd⟩
 refine ⟨I.ok, I.os, hg, ⟨fun b o e n hb hx => ?_, fun b o e n hb hx => ?_, fun b o e n hx => ?_, fun b o e hx => ?_, fun b xs e => tups b xs (I.base.tups b xs e), fun b o xs e => frzs b o xs (I.base.frzs b o xs e), fun b ps e => ?_⟩, ?_, fun x c e => ?_, ?_, fun x c e => ?_, fun p hp => ?_, hok, I.len⟩
 ·exact keep b o (neL b o e) hb (neC b o e hx) (I.base.keep b o e n hb hx) (I.base.free b o e n hx)
 ·obtain ⟨sl, e1⟩ := I.base.slot b o e n hb hx
  obtain ⟨sl', e2⟩ := slot b _ (neL b o e) hb (neC b o e hx) e1 (I.base.free b o e n hx)
  exact ⟨sl', e2⟩
 ·obtain ⟨o', e1⟩ := I.base.there b o e hx
  exact free b o' (neC b o e hx) e1 (I.base.free b o e n hx)
 ·obtain ⟨o', e1⟩ := I.base.there b o e hx
  exact there b o' (neC b o e hx) e1
 ·obtain ⟨m1, e1⟩ := I.base.tbls b ps e
  obtain ⟨m2, e2⟩ := tbls b _ e1
  exact ⟨m1 ++ m2, by rw [e2, Array.append_assoc]⟩
 ·obtain ⟨m, hn, hl⟩ := I.loc
  refine ⟨m, ns m hn, fun i x v e1 e2 e3 => ?_⟩
  obtain ⟨u, r, l⟩ := hl i x v e1 e2 e3
  refine ⟨u, r, ?_⟩
  rcases l with l | ⟨k, c, e, z⟩
  ·exact .inl l
  ·exact .inr ⟨k, c, e, cellK x c e _ z⟩
 ·obtain ⟨v, z⟩ := I.cell x c e
  exact ⟨v, cellK x c e v z⟩
 ·obtain ⟨m, ⟨o, _, _, ho, _⟩, _⟩ := I.loc
  exact free _ o (fun z => (hch _ z).2.1 rfl) ho I.free
 ·obtain ⟨v, o, ho, hd⟩ := I.cell x c e
  exact free c o (fun z => (hch c z).2.2.1 x c e rfl) ho (I.freeC x c e)
 ·obtain ⟨e, n, ne, nf, d⟩ := I.pin p hp
  have nch : p.1 ∉ ch := fun z => (hch p.1 z).2.2.2 p hp rfl
  exact ⟨keep p.1 p.2 ne nf nch e n, free p.1 p.2 nch e n, ne, nf, d⟩
theorem Inv.un {t' : Nat} (I : Inv X pins σ H s) (u : Un X.fs [] H H' s.heap h') (hok : HOk X.prog X.w H' h') : Inv X pins σ H' { s with heap := h', toks := t' } := by
 obtain ⟨m, ⟨o, es, ep, ho, r⟩, _⟩ := id I.loc
 obtain ⟨sl, hL⟩ := u.any ho I.free (by simp)
 exact I.step (g' := s.gens) (d' := s.drawn) (ch := []) (fun _ z => nomatch z) (fun b o _ hb _ e n => u.keep b o e n hb (by simp)) (fun b o _ hb _ e n => u.slot b o e n hb (by simp)) (fun b o _ e n => u.free b o e n (by simp)) (fun b o _ e => u.there b o e (by simp)) u.tups u.frzs u.tbls (fun m' hm => by
  obtain ⟨o', es', ep', ho', r'⟩ := hm
  rw [ho] at ho'; cases ho'
  exact ⟨_, es', ep', hL, r'⟩) hok I.bare
theorem Inv.call {g' : Array GenState} {t' : Nat} {d' : Drawn} {ch : List Addr} (I : Inv X pins σ H s) (u : Un (frs X.stack) ch H H' s.heap h') (hok : HOk X.prog X.w H' h') (hg : AllBare g')
  (hch : ∀ b ∈ ch, (b ∈ X.ex ∨ X.s₀.heap.objs.size ≤ b) ∧ b ≠ X.env.locals ∧ (∀ x c, X.env.cells.lookup x = some c → c ≠ b) ∧ ∀ p ∈ X.pn ++ pins, p.1 ≠ b) :
  Inv X pins σ H' { s with heap := h', gens := g', drawn := d', toks := t' } := by
 obtain ⟨m, ⟨o, es, ep, ho, r⟩, _⟩ := id I.loc
 obtain ⟨sl, hL⟩ := u.any ho I.free fun z => (hch _ z).2.1 rfl
 exact I.step (ch := ch) hch (fun b o hL hb hc e n => u.keep b o e n (fun z => (List.mem_cons.mp (I.stkSub b z)).elim hL hb) hc) (fun b o _ _ hc e n => u.any e n hc) (fun b o hc e n => u.free b o e n hc) (fun b o hc e => u.there b o e hc) u.tups u.frzs u.tbls (fun m' hm => by
  obtain ⟨o', es', ep', ho', r'⟩ := hm
  rw [ho] at ho'; cases ho'
  exact ⟨_, es', ep', hL, r'⟩) hok hg
theorem Inv.turned {t' : Nat} {it : Addr} (I : Inv X pins σ H s) (k : ∀ b o, b ≠ it → s.heap.get? b = some o → h'.get? b = some o) (hn : H it = none) (hL : it ≠ X.env.locals)
  (h1 : it ∈ X.ex ∨ X.s₀.heap.objs.size ≤ it) (h2 : ∀ x c, X.env.cells.lookup x = some c → c ≠ it) (h3 : ∀ p ∈ X.pn ++ pins, p.1 ≠ it) : Inv X pins σ H { s with heap := h', toks := t' } := by
 have nit : ∀ b u, H b = some u → b ≠ it := fun b u e z => by rw [z, hn] at e; cases e
 refine I.step (g' := s.gens) (d' := s.drawn) (ch := [it]) (fun b hb => ?_) (fun b o _ _ hc e _ => k b o (fun z => hc (by simp [z])) e) (fun b o _ _ hc e _ => ⟨o.slots, k b o (fun z => hc (by simp [z])) e⟩) (fun _ _ _ _ n => n)
  (fun b o hc e => ⟨o, k b o (fun z => hc (by simp [z])) e⟩) (fun _ _ e => e) (fun _ _ _ e => e) (fun b ps e => ⟨#[], by rw [e]; simp⟩) (fun m hm => ?_) (fun b u e => ?_) I.bare
 ·have e : b = it := by simpa using hb
  subst e
  exact ⟨h1, hL, h2, h3⟩
 ·obtain ⟨o, es, ep, ho, r⟩ := hm
  exact ⟨o, es, ep, k _ o (Ne.symm hL) ho, r⟩
 ·refine (I.hok b u e).stay (fun c v hc q => k c v ?_ q) (fun _ q => q) fun _ _ q => q
  rcases hc with z | z
  ·rw [z]; exact nit b u e
  ·exact nit c _ z
theorem Inv.tok (I : Inv X pins σ H s) (t : Nat) : Inv X pins σ H { s with toks := t } := I.un (h' := s.heap) (t' := t) Un.refl I.hok
theorem Inv.kept {t' : Nat} (I : Inv X pins σ H s) (k : ∀ b u, s.heap.get? b = some u → h'.get? b = some u) : Inv X pins σ H { s with heap := h', toks := t' } := I.un (Un.kept k) (I.hok.kept k)
theorem Inv.laid {a : Addr} {o : HO} {t' : Nat} (I : Inv X pins σ H s) (k : ∀ b u, s.heap.get? b = some u → h'.get? b = some u) (hp : s.heap.objs.size ≤ a) (new : ObjOk X.prog X.w (upd H a o) h' a o) :
  Inv X pins σ (upd H a o) { s with heap := h', toks := t' } := I.un (Un.laid k hp (I.hok.fresh hp)) (I.hok.laid k hp new)
theorem Inv.write {x e : Addr} {o : HO} {t' : Nat} (I : Inv X pins σ H s) (mu : Mut (H x)) (he : e = x ∨ H e = some (.own x)) (k : ∀ b u, b ≠ e → s.heap.get? b = some u → h'.get? b = some u) (heo : ∃ u, h'.get? e = some u)
  (new : ObjOk X.prog X.w (upd H x o) h' x o) : Inv X pins σ (upd H x o) { s with heap := h', toks := t' } := I.un (Un.write mu he k heo) (I.hok.write mu he k heo new)
theorem Inv.pins_of {pins' : List (Addr × Obj)} (I : Inv X pins σ H s) (h : ∀ p ∈ pins', s.heap.get? p.1 = some p.2 ∧ H p.1 = none ∧ p.1 ≠ X.env.locals ∧ p.1 ∉ X.fs ∧ ∀ v, p.2.data ≠ .cell v) : Inv X pins' σ H s :=
 ⟨I.ok, I.os, I.bare, I.base, I.loc, I.cell, I.free, I.freeC, fun p hp => (List.mem_append.mp hp).elim (fun z => I.pin p (List.mem_append_left _ z)) (h p), I.hok, I.len⟩
theorem nodup_ix {N : List Str} (hN : N.Nodup) {i j : Nat} {x : Str} (a : N[i]? = some x) (b : N[j]? = some x) : i = j := by
 obtain ⟨h1, e1⟩ := List.getElem?_eq_some_iff.mp a
 obtain ⟨h2, e2⟩ := List.getElem?_eq_some_iff.mp b
 exact (List.getElem_inj hN).mp (e1.trans e2.symm)
theorem store_ok2 {M : Model} {A : Around} {E : Value → Shared → Prop} {i : Nat} {x : Str} {v : V} {u : Value} {Q : Unit → Shared → Prop} (I : Inv X pins σ H s) (hN : X.N.Nodup) (hi : X.N[i]? = some x) (hx : Loc X.env.scope x) (r : RelV v u)
  (h : ∀ s', Inv X pins (σ.set i (some v)) H s' → (∃ a, Heap.SameBut a s.heap s'.heap ∧ (a = X.env.locals ∨ X.env.cells.lookup x = some a)) → Q () s') (hf : X.fn x = true ∨ X.env.scope.names.lookup x = some .local := by first | exact .inl rfl | exact .inr rfl | assumption) : wpAny M A (storeName X.env x u) Q E s := by
 obtain ⟨m, hn, hl⟩ := id I.loc
 have hcls : (X.env.scope.kind == .class || (X.env.scope.kind == .module && X.env.locals != X.env.globals)) = false := by rw [I.ok.kind]; rfl
 have hiσ : i < σ.length := by rw [I.len]; exact (List.getElem?_eq_some_iff.mp hi).1
 have cne := I.cne
 have tracked : ∀ {a : Addr} {h' : Heap}, (∃ o, s.heap.get? a = some o ∧ H a = none) → Heap.SameBut a s.heap h' → HOk X.prog X.w H h' := fun {a h'} ha hs b ob e => by
  obtain ⟨_, _, hfree⟩ := ha
  refine (I.hok b ob e).stay (fun c w' hc q => (hs.2 c ?_).trans q) (fun _ q => q) fun _ _ q => q
  rintro rfl
  rcases hc with rfl | hc
  ·rw [hfree] at e; cases e
  ·rw [hfree] at hc; cases hc
 rcases hx with hk | hk
 ·refine wpAny_storeName_local hk hn (fun h' hn' hs => ?_) hcls
  obtain ⟨oL, _, _, hoL, _⟩ := id hn
  refine h _ ⟨I.ok, I.os, I.bare, ⟨fun b o e n hb hx => ?_, fun b o e n hb hx => ?_, I.base.free, fun b o e hx => ?_, I.base.tups, I.base.frzs, I.base.tbls⟩, ⟨_, hn', fun j y v' e1 e2 e3 => ?_⟩, fun y c e => ?_, I.free, I.freeC, fun p hp => ?_, tracked ⟨oL, hoL, I.free⟩ hs, by simpa using I.len⟩ ⟨_, hs, .inl rfl⟩
  ·exact (hs.2 b (Nat.ne_of_lt (Nat.lt_of_lt_of_le (Heap.lt_size e) I.ok.above))).trans (I.base.keep b o e n hb hx)
  ·obtain ⟨sl, e1⟩ := I.base.slot b o e n hb hx
   exact ⟨sl, (hs.2 b (Nat.ne_of_lt (Nat.lt_of_lt_of_le (Heap.lt_size e) I.ok.above))).trans e1⟩
  ·obtain ⟨o', e1⟩ := I.base.there b o e hx
   exact ⟨o', (hs.2 b (Nat.ne_of_lt (Nat.lt_of_lt_of_le (Heap.lt_size e) I.ok.above))).trans e1⟩
  ·by_cases hj : j = i
   ·subst hj
    rw [hi] at e1; cases e1
    rw [List.getElem?_set_self hiσ] at e2
    cases e2
    exact ⟨u, r, .inl ⟨hk, by simp⟩⟩
   ·rw [List.getElem?_set_ne (Ne.symm hj)] at e2
    obtain ⟨u', r', q⟩ := hl j y v' e1 e2 e3
    refine ⟨u', r', ?_⟩
    rcases q with ⟨k, e⟩ | ⟨k, c, e, z⟩
    ·refine .inl ⟨k, ?_⟩
     have : y ≠ x := fun e => hj (nodup_ix hN e1 (e ▸ hi))
     simp [this, e]
    ·exact .inr ⟨k, c, e, z.sameBut hs (cne y c e)⟩
  ·obtain ⟨w', z⟩ := I.cell y c e
   exact ⟨w', z.sameBut hs (cne y c e)⟩
  ·obtain ⟨e, n, ne, nf, d⟩ := I.pin p hp
   exact ⟨(hs.2 p.1 ne).trans e, n, ne, nf, d⟩
 ·have hfn : X.fn x = true := by
   rcases hf with z | z
   ·exact z
   ·rw [z] at hk; cases hk
  obtain ⟨c, hc⟩ := I.ok.has x (.inl hk)
  obtain ⟨w', z⟩ := I.cell x c hc
  refine wpAny_storeName_cell I.ok.kind hk hc z (fun h' hc' hs => ?_)
  obtain ⟨oc, hoc, hocd⟩ := id z
  refine h { s with heap := h' } ⟨I.ok, I.os, I.bare, ⟨fun b o e n hb hx => ?_, fun b o e n hb hx => ?_, I.base.free, fun b o e hx => ?_, I.base.tups, I.base.frzs, I.base.tbls⟩, ⟨m, hn.sameBut hs (Ne.symm (cne x c hc)), fun j y v' e1 e2 e3 => ?_⟩, fun y c' e => ?_, I.free, I.freeC, fun p hp => ?_, tracked ⟨oc, hoc, I.freeC x c hc⟩ hs, by simpa using I.len⟩ ⟨c, hs, .inr hc⟩
  ·exact (hs.2 b (Nat.ne_of_lt (Nat.lt_of_lt_of_le (Heap.lt_size e) (I.ok.cab x c hfn hc)))).trans (I.base.keep b o e n hb hx)
  ·obtain ⟨sl, e1⟩ := I.base.slot b o e n hb hx
   exact ⟨sl, (hs.2 b (Nat.ne_of_lt (Nat.lt_of_lt_of_le (Heap.lt_size e) (I.ok.cab x c hfn hc)))).trans e1⟩
  ·obtain ⟨o', e1⟩ := I.base.there b o e hx
   exact ⟨o', (hs.2 b (Nat.ne_of_lt (Nat.lt_of_lt_of_le (Heap.lt_size e) (I.ok.cab x c hfn hc)))).trans e1⟩
  ·by_cases hj : j = i
   ·subst hj
    rw [hi] at e1; cases e1
    rw [List.getElem?_set_self hiσ] at e2
    cases e2
    exact ⟨u, r, .inr ⟨.inl hk, c, hc, hc'⟩⟩
   ·rw [List.getElem?_set_ne (Ne.symm hj)] at e2
    obtain ⟨u', r', q⟩ := hl j y v' e1 e2 e3
    refine ⟨u', r', ?_⟩
    rcases q with q | ⟨k, c', e, z'⟩
    ·exact .inl q
    ·refine .inr ⟨k, c', e, z'.sameBut hs ?_⟩
     rintro rfl
     exact hj (nodup_ix hN e1 (I.ok.inj _ _ _ e hc ▸ hi))
  ·by_cases hcc : c' = c
   ·subst hcc; exact ⟨_, hc'⟩
   ·obtain ⟨w2, z2⟩ := I.cell y c' e
    exact ⟨w2, z2.sameBut hs hcc⟩
  ·obtain ⟨e, n, ne, nf, d⟩ := I.pin p hp
   refine ⟨(hs.2 p.1 ?_).trans e, n, ne, nf, d⟩
   intro q
   rw [q, hoc] at e
   have q' : oc = p.2 := Option.some.inj e
   exact d w' (by rw [← q']; exact hocd)
theorem store_ok {M : Model} {A : Around} {E : Value → Shared → Prop} {i : Nat} {x : Str} {v : V} {u : Value} {Q : Unit → Shared → Prop} (I : Inv X pins σ H s) (hN : X.N.Nodup) (hi : X.N[i]? = some x) (hx : Loc X.env.scope x) (r : RelV v u)
  (h : ∀ s', Inv X pins (σ.set i (some v)) H s' → Q () s') (hf : X.fn x = true ∨ X.env.scope.names.lookup x = some .local := by first | exact .inl rfl | exact .inr rfl | assumption) : wpAny M A (storeName X.env x u) Q E s :=
 store_ok2 I hN hi hx r (fun s' I' _ => h s' I') hf
theorem Inv.call' {s' : Shared} {ch : List Addr} (I : Inv X pins σ H s) (ho : s'.os = s.os) (u : Un (frs X.stack) ch H H' s.heap s'.heap) (hok : HOk X.prog X.w H' s'.heap) (hg : AllBare s'.gens)
  (hch : ∀ b ∈ ch, (b ∈ X.ex ∨ X.s₀.heap.objs.size ≤ b) ∧ b ≠ X.env.locals ∧ (∀ x c, X.env.cells.lookup x = some c → c ≠ b) ∧ ∀ p ∈ X.pn ++ pins, p.1 ≠ b) : Inv X pins σ H' s' := by
 obtain ⟨h', g', d', t', o'⟩ := s'
 have e : o' = s.os := ho
 subst e
 exact I.call (g' := g') (t' := t') (d' := d') u hok hg hch
end
noncomputable abbrev XK := Value → Option Addr → Hp → Prop
noncomputable abbrev St := List (Option V)
noncomputable abbrev VK := V → Hp → Prop
noncomputable abbrev TE := St → Hp → VK → Prop
noncomputable abbrev TT := St → Hp → (Bool → Hp → Prop) → Prop
noncomputable abbrev TA := St → Hp → (List V → Hp → Prop) → Prop
structure Ends where
 nx : St → Hp → Prop
 rt : VK
 bk : St → Hp → Prop := fun _ _ => False
 ct : St → Hp → Prop := fun _ _ => False
noncomputable abbrev TS := Ends → St → Hp → Prop
noncomputable def EP (X : Cx) (pins : List (Addr × Obj)) (σ : St) (Q : VK) (u : Value) (s' : Shared) : Prop := ∃ v H', Inv X pins σ H' s' ∧ RelV v u ∧ Q v H'
noncomputable def TP (X : Cx) (pins : List (Addr × Obj)) (σ : St) (Q : Bool → Hp → Prop) (b : Bool) (s' : Shared) : Prop := ∃ H', Inv X pins σ H' s' ∧ Q b H'
noncomputable def AP (X : Cx) (pins : List (Addr × Obj)) (σ : St) (Q : List V → Hp → Prop) (us : List Value) (s' : Shared) : Prop := ∃ vs H', Inv X pins σ H' s' ∧ Vals vs us ∧ Q vs H'
noncomputable def SP (X : Cx) (pins : List (Addr × Obj)) (D : Ends) (f : Flow) (s' : Shared) : Prop :=
 match f with
 | .next => ∃ σ' H', Inv X pins σ' H' s' ∧ D.nx σ' H'
 | .brk => ∃ σ' H', Inv X pins σ' H' s' ∧ D.bk σ' H'
 | .cont => ∃ σ' H', Inv X pins σ' H' s' ∧ D.ct σ' H'
 | .ret u => ∃ v σ' H', Inv X pins σ' H' s' ∧ RelV v u ∧ D.rt v H'
noncomputable def PE (X : Cx) (e : Expr) (t : TE) : Prop :=
 ∀ (pins : List (Addr × Obj)) (s : Shared) (σ : St) (H : Hp) (Q : VK), Inv X pins σ H s → t σ H Q → wpAny (model X.prog X.w) X.A (eval e X.env) (EP X pins σ Q) X.xe s
noncomputable def PT (X : Cx) (e : Expr) (t : TT) : Prop :=
 ∀ (pins : List (Addr × Obj)) (s : Shared) (σ : St) (H : Hp) (Q : Bool → Hp → Prop), Inv X pins σ H s → t σ H Q → wpAny (model X.prog X.w) X.A (isTrue e X.env (eval e X.env)) (TP X pins σ Q) X.xe s
noncomputable def PW (X : Cx) (e : Expr) (t : TT) : Prop :=
 ∀ (whole : Sem Value) (pins : List (Addr × Obj)) (s : Shared) (σ : St) (H : Hp) (Q : Bool → Hp → Prop), Inv X pins σ H s → t σ H Q → wpAny (model X.prog X.w) X.A (isTrue e X.env whole) (TP X pins σ Q) X.xe s
theorem PW.pt {X : Cx} {e : Expr} {t : TT} (h : PW X e t) : PT X e t := h _
noncomputable def PA (X : Cx) (es : List Expr) (t : TA) : Prop :=
 ∀ (pos : Pos) (pins : List (Addr × Obj)) (s : Shared) (σ : St) (H : Hp) (Q : List V → Hp → Prop), Inv X pins σ H s → t σ H Q → wpAny (model X.prog X.w) X.A (spliced (backTo pos (starEach es X.env))) (AP X pins σ Q) X.xe s
noncomputable def PS (X : Cx) (st : Stmt) (t : TS) : Prop :=
 ∀ (pins : List (Addr × Obj)) (s : Shared) (σ : St) (H : Hp) (D : Ends), Inv X pins σ H s → t D σ H → wpAny (model X.prog X.w) X.A (exec st X.env) (SP X pins D) X.xe s
noncomputable def PSs (X : Cx) (st : List Stmt) (t : TS) : Prop :=
 ∀ (pins : List (Addr × Obj)) (s : Shared) (σ : St) (H : Hp) (D : Ends), Inv X pins σ H s → t D σ H → wpAny (model X.prog X.w) X.A (execs st X.env) (SP X pins D) X.xe s
theorem thn {α : Type} {t : Sem α} {Q Q' : α → Shared → Prop} {M : Model} {A : Around} {E : Value → Shared → Prop} {s : Shared} (h : wpAny M A t Q E s) (hQ : ∀ a s, Q a s → Q' a s) : wpAny M A t Q' E s := wpAny_mono h hQ fun _ _ x => x
end L2
namespace L2
open PySem PySem.Spec PyProof.Rows
section
variable {X : Cx}
theorem bin {a b : Expr} {ta tb : TE} (ha : PE X a ta) (hb : PE X b tb) {pins : List (Addr × Obj)} {s : Shared} {σ : St} {H : Hp} {R : V → V → Hp → Prop} (I : Inv X pins σ H s) (h : ta σ H fun x H1 => tb σ H1 fun y H2 => R x y H2)
  {α : Type} {Q : α → Shared → Prop} {f : Value → Value → Sem α}
  (hf : ∀ v u s2 x y H2, Inv X pins σ H2 s2 → RelV x v → RelV y u → R x y H2 → wpAny (model X.prog X.w) X.A (f v u) Q X.xe s2) :
  wpAny (model X.prog X.w) X.A (eval a X.env) (fun v s₁ => wpAny (model X.prog X.w) X.A (eval b X.env) (fun u s₂ => wpAny (model X.prog X.w) X.A (f v u) Q X.xe s₂) X.xe s₁) X.xe s := by
 refine thn (ha pins s σ H _ I h) fun v s1 hX11_ => ?_
 obtain ⟨x, H1, I1, r1, q1⟩ := hX11_
 refine thn (hb pins s1 σ H1 _ I1 q1) fun u s2 hX21_ => ?_
 obtain ⟨y, H2, I2, r2, q2⟩ := hX21_
 exact hf v u s2 x y H2 I2 r1 r2 q2
noncomputable def tVar (i : Nat) : TE := fun σ H Q => ∃ v, σ[i]? = some (some v) ∧ Q v H
noncomputable def tC (v : V) : TE := fun _ H Q => Q v H
theorem pe_var {i : Nat} {x : Str} {pos : Pos} (hN : X.N[i]? = some x) (hv : Vis X.env.scope x) (hd : (x == ("__debug__" : Str)) = false := by decide) (hcd : (x == ("__classdict__" : Str)) = false := by decide) : PE X (.Name x pos) (tVar i) := by
 intro pins s σ H Q I h
 obtain ⟨v, e, h⟩ := h
 obtain ⟨m, hn, hl⟩ := I.loc
 obtain ⟨u, r, l⟩ := hl i x v hN e hv
 have fin : EP X pins σ Q u s := ⟨v, H, I, r, h⟩
 rcases l with ⟨hk, hm⟩ | ⟨hk, c, hc, hcell⟩
 ·exact wpAny_Name (wpAny_loadName_local I.ok.kind hk hn hm fin) hd
 ·rcases hk with hk | hk
  ·exact wpAny_Name (wpAny_loadName_cell I.ok.kind hk hc hcell fin) hd
  ·exact wpAny_Name (wpAny_loadName_free I.ok.kind hk hc hcell fin hcd) hd
theorem pe_int {i j pos} : PE X (.Constant (.int i) j pos) (tC (.int i)) := fun _ _ _ H _ I h => wpAny_Constant_int ⟨.int i, H, I.tok _, ⟨_, rfl⟩, h⟩
theorem pe_bl {b j pos} : PE X (.Constant (.bool b) j pos) (tC (.bl b)) := fun _ _ _ H _ I h => Constant_bool ⟨.bl b, H, I, rfl, h⟩
theorem pe_str {x j pos} : PE X (.Constant (.str x) j pos) (tC (.str x)) := fun _ _ _ H _ I h => Calls.Constant_str ⟨.str x, H, I.tok _, ⟨_, rfl⟩, h⟩
noncomputable def Gl (X : Cx) (x : Str) : Prop := X.env.kindOf x = some .globalImplicit
theorem ld_glob {E : Value → Shared → Prop} {pins : List (Addr × Obj)} {s : Shared} {σ : St} {H : Hp} {x : Str} {u : Value} {pos : Pos} {Q : Value → Shared → Prop} (I : Inv X pins σ H s) (hg : Gl X x) (hm : X.mg x = some u) (h : Q u s)
  (hd : (x == ("__debug__" : Str)) = false := by decide) : wpAny (model X.prog X.w) X.A (eval (.Name x pos) X.env) Q E s :=
 Calls.Name_function_global I.ok.kind hg (Calls.loadGlobal_global (by rw [I.ok.glob]; exact I.mod.glob.keeps I.bk) hm h) hd
theorem ld_blt {E : Value → Shared → Prop} {pins : List (Addr × Obj)} {s : Shared} {σ : St} {H : Hp} {x : Str} {u : Value} {pos : Pos} {Q : Value → Shared → Prop} (I : Inv X pins σ H s) (hg : Gl X x) (hm : X.mg x = none) (hv : bootBuiltins x = some u) (h : Q u s)
  (hn : x ≠ "__name__" := by decide) (hd : (x == ("__debug__" : Str)) = false := by decide) : wpAny (model X.prog X.w) X.A (eval (.Name x pos) X.env) Q E s := by
 obtain ⟨mb, h1, h2⟩ := I.mod.blt
 exact Calls.Name_function_global I.ok.kind hg (Calls.loadGlobal_builtin (by rw [I.ok.glob]; exact I.mod.glob.keeps I.bk) hm (by rw [I.ok.blt]; exact h1.keeps I.bk) ((h2 x hn).trans hv) h) hd
theorem pe_bltn {x : Str} {v : V} {u : Value} {pos : Pos} (hg : Gl X x) (hm : X.mg x = none) (hv : bootBuiltins x = some u) (r : RelV v u) (hn : x ≠ "__name__" := by decide) (hd : (x == ("__debug__" : Str)) = false := by decide) : PE X (.Name x pos) (tC v) :=
 fun _ _ _ H _ I h => ld_blt I hg hm hv ⟨v, H, I, r, h⟩ hn hd
variable {a b : Expr} {ta tb : TE} {pos : Pos}
noncomputable def PC (X : Cx) (op : CmpOp) (a b : Expr) (t : TE) : Prop :=
 ∀ (pins : List (Addr × Obj)) (s : Shared) (σ : St) (H : Hp) (Q : VK), Inv X pins σ H s → t σ H Q →
  wpAny (model X.prog X.w) X.A (eval a X.env) (fun v s₁ => wpAny (model X.prog X.w) X.A (eval b X.env) (fun u s₂ => wpAny (model X.prog X.w) X.A (compareOp op v u) (EP X pins σ Q) X.xe s₂) X.xe s₁) X.xe s
theorem nobehind (b : Expr) {op : CmpOp} (h : op ≠ .In) (h2 : op ≠ .NotIn) : behindInMarks op b = false := by
 have e1 : (op == CmpOp.In) = false := by cases op <;> first | rfl | exact absurd rfl h
 have e2 : (op == CmpOp.NotIn) = false := by cases op <;> first | rfl | exact absurd rfl h2
 cases b <;> simp [behindInMarks, e1, e2]
noncomputable def tB (t : TE) : TT := fun σ H Q => t σ H fun x H1 => ∃ c, x = .bl c ∧ Q c H1
theorem pt_cmp {op : CmpOp} {t : TE} (h : PC X op a b t) (h1 : behindInMarks op b = false := by first | exact nobehind _ (by decide) (by decide) | rfl) : PT X (.Compare a [op] [b] pos) (tB t) := by
 intro pins s σ H Q I hw
 refine wpAny_isTrue_Compare1 (thn (h pins s σ H _ I hw) fun v s1 h1 => thn h1 fun u s2 h2 => thn h2 fun c s3 hX11_ => ?_) h1
 obtain ⟨x, H1, I1, r1, q1⟩ := hX11_
 obtain ⟨d, rfl, q⟩ := q1
 cases r1
 exact wpAny_truthy_bool ⟨H1, I1, q⟩
theorem pt_val {e : Expr} {t : TE} (h : PE X e t) (he : ∀ whole, isTrue e X.env whole = (do let v ← whole; standAt e.pos; holding [v] (truthy v)) := by intro _; rfl) : PT X e (tB t) := by
 intro pins s σ H Q I hw
 refine isTrue_plain (thn (h pins s σ H _ I hw) fun v s1 hX11_ => ?_) (he _)
 obtain ⟨x, H1, I1, r1, q1⟩ := hX11_
 obtain ⟨d, rfl, q⟩ := q1
 cases r1
 exact wpAny_truthy_bool ⟨H1, I1, q⟩
variable {tA tB' : TT} {rest : List Expr}
noncomputable def tOr (t u : TT) : TT := fun σ H Q => t σ H fun c H1 => if c = true then Q true H1 else u σ H1 Q
noncomputable def tNot (t : TT) : TT := fun σ H Q => t σ H fun c H1 => Q (!c) H1
theorem pw_or1 (ha : PT X a tA) : PW X (.BoolOp .Or [a] pos) tA := by
 intro wh pins s σ H Q I h
 refine isTrue_or (thn (ha pins s σ H Q I h) fun c s1 e => ?_)
 cases c with
 | false => exact isTrue_or_nil e
 | true => exact e
theorem pw_or (ha : PT X a tA) (hb : PW X (.BoolOp .Or (b :: rest) pos) tB') : PW X (.BoolOp .Or (a :: b :: rest) pos) (tOr tA tB') := by
 intro wh pins s σ H Q I h
 refine isTrue_or (thn (ha pins s σ H _ I h) fun c s1 hX11_ => ?_)
 obtain ⟨H1, I1, q1⟩ := hX11_
 cases c with
 | true => exact ⟨H1, I1, q1⟩
 | false => exact hb wh pins s1 σ H1 Q I1 q1
theorem pt_not (ha : PT X a tA) : PT X (.UnaryOp .Not a pos) (tNot tA) := by
 intro pins s σ H Q I h
 exact isTrue_not (ha pins s σ H (fun c H1 => Q (!c) H1) I h)
end
end L2
namespace L2
open PySem PySem.Spec PyProof.Rows
noncomputable def SqL (K : PySem.W.Frag) (H : Hp) (a : Addr) (xs : List V) : Prop :=
 Rd H a (.lst xs) ∨
  ∃ (o : Obj) (its : Array Value) (n : Nat), K.lookup a = some o ∧ o.cls = .type "list" ∧ o.dict = none ∧ o.data = .seq its n ∧ its.size ≤ sizeLine ∧ Vals xs its.toList
noncomputable def SqT (K : PySem.W.Frag) (H : Hp) (a : Addr) (xs : List V) : Prop :=
 Rd H a (.tup xs) ∨
  ∃ (o : Obj) (its : Array Value) (n : Nat), K.lookup a = some o ∧ o.cls = .type "tuple" ∧ o.data = .seq its n ∧ its.size ≤ sizeLine ∧ Vals xs its.toList
noncomputable def absV : Value → Option V
 | .none => some .non
 | .bool b => some (.bl b)
 | .int i _ => some (.int i)
 | .str x _ => some (.str x)
 | .bytes b _ => some (.byt b)
 | .float b _ => some (.flt b)
 | .ref a => some (.ref a)
 | .type n => some (.ty n)
 | _ => none
theorem RelV.abs {x : V} {u : Value} (r : RelV x u) : absV u = some x := by
 cases x with
 | non => cases r; rfl
 | bl _ => cases r; rfl
 | int _ => obtain ⟨t, rfl⟩ := r; rfl
 | str _ => obtain ⟨t, rfl⟩ := r; rfl
 | byt _ => obtain ⟨t, rfl⟩ := r; rfl
 | flt _ => obtain ⟨t, rfl⟩ := r; rfl
 | ref _ => cases r; rfl
 | ty _ => cases r; rfl
theorem RelV.inj {x y : V} {u : Value} (r : RelV x u) (q : RelV y u) : x = y := Option.some.inj (r.abs.symm.trans q.abs)
theorem Vals.inj : ∀ {xs ys : List V} {us : List Value}, Vals xs us → Vals ys us → xs = ys
 | _, _, _, .nil, .nil => rfl
 | _, _, _, .cons r t, .cons r' t' => by rw [r.inj r', Vals.inj t t']
section
variable {X : Cx} {pins : List (Addr × Obj)} {σ : St} {H : Hp} {s : Shared} {a : Addr} {xs ys : List V}
theorem SqL.of {K : PySem.W.Frag} (h : H a = some (.lst xs)) : SqL K H a xs := .inl (.inl h)
theorem SqT.of {K : PySem.W.Frag} (h : H a = some (.tup xs)) : SqT K H a xs := .inl (.inl h)
theorem Inv.list (I : Inv X pins σ H s) (h : SqL X.K H a xs) : ∃ its : List Value, Vals xs its ∧ PlainL s.heap a its.toArray ∧ xs.length ≤ sizeLine := by
 rcases h with h | ⟨o, its, n, hk, hc, hd, hs, hz, r⟩
 ·obtain ⟨z, its, n, r, e⟩ := h.ok I.hok
  exact ⟨its, r, ⟨_, n, e, rfl, rfl, rfl⟩, z⟩
 ·refine ⟨its.toList, r, ⟨o, n, I.kIn a o hk, hc, hd, by simpa using hs⟩, ?_⟩
  have e := r.length
  simp only [Array.length_toList] at e
  lia
theorem Inv.tuple (I : Inv X pins σ H s) (h : SqT X.K H a xs) : ∃ its : List Value, Vals xs its ∧ IsTup s.heap a its.toArray ∧ xs.length ≤ sizeLine := by
 rcases h with h | ⟨o, its, n, hk, hc, hs, hz, r⟩
 ·obtain ⟨z, its, r, p⟩ := h.ok I.hok
  exact ⟨its, r, p, z⟩
 ·refine ⟨its.toList, r, ⟨o, I.kIn a o hk, hc, n, by simpa using hs⟩, ?_⟩
  have e := r.length
  simp only [Array.length_toList] at e
  lia
theorem Inv.list_inj (I : Inv X pins σ H s) (h : SqL X.K H a xs) (h' : SqL X.K H a ys) : xs = ys := by
 obtain ⟨its, r, ⟨o, n, e, _, _, d⟩, _⟩ := I.list h
 obtain ⟨its', r', ⟨o', n', e', _, _, d'⟩, _⟩ := I.list h'
 rw [e] at e'; cases e'
 rw [d] at d'
 injection d' with d1 _
 have : its = its' := by simpa using congrArg Array.toList d1
 subst this
 exact r.inj r'
theorem Inv.tuple_inj (I : Inv X pins σ H s) (h : SqT X.K H a xs) (h' : SqT X.K H a ys) : xs = ys := by
 obtain ⟨its, r, ⟨o, e, _, n, d⟩, _⟩ := I.tuple h
 obtain ⟨its', r', ⟨o', e', _, n', d'⟩, _⟩ := I.tuple h'
 rw [e] at e'; cases e'
 rw [d] at d'
 injection d' with d1 _
 have : its = its' := by simpa using congrArg Array.toList d1
 subst this
 exact r.inj r'
end
noncomputable abbrev Cx.wish (X : Cx) (E : Value → Shared → Prop) : Cx := { X with xe := E }
noncomputable abbrev Cx.nox (X : Cx) : Cx := X.wish fun _ _ => False
theorem Cx.Ok.wish {X : Cx} (ok : X.Ok) (E : Value → Shared → Prop) : (X.wish E).Ok :=
 ⟨ok.mod, ok.kind, ok.glob, ok.blt, ok.above, ok.inj, ok.has, ok.cab, ok.hd, ok.frames, ok.stk, ok.exf, ok.bs, ok.bsz, ok.noex, ok.exfs, ok.funs, ok.frf⟩
theorem Cx.Ok.unwish {X : Cx} {E : Value → Shared → Prop} (ok : (X.wish E).Ok) : X.Ok :=
 ⟨ok.mod, ok.kind, ok.glob, ok.blt, ok.above, ok.inj, ok.has, ok.cab, ok.hd, ok.frames, ok.stk, ok.exf, ok.bs, ok.bsz, ok.noex, ok.exfs, ok.funs, ok.frf⟩
section
variable {X : Cx} {pins : List (Addr × Obj)} {σ : St} {H : Hp} {s : Shared} {E : Value → Shared → Prop}
theorem Inv.wish (I : Inv X pins σ H s) (E : Value → Shared → Prop) : Inv (X.wish E) pins σ H s := ⟨I.ok.wish E, I.os, I.bare, I.base, I.loc, I.cell, I.free, I.freeC, I.pin, I.hok, I.len⟩
theorem Inv.unwish (I : Inv (X.wish E) pins σ H s) : Inv X pins σ H s := ⟨I.ok.unwish, I.os, I.bare, I.base, I.loc, I.cell, I.free, I.freeC, I.pin, I.hok, I.len⟩
theorem SP.unwish {D : Ends} {f : Flow} {s' : Shared} (h : SP (X.wish E) pins D f s') : SP X pins D f s' := by
 cases f with
 | next => obtain ⟨σ', H', I, q⟩ := h; exact ⟨σ', H', I.unwish, q⟩
 | brk => obtain ⟨σ', H', I, q⟩ := h; exact ⟨σ', H', I.unwish, q⟩
 | cont => obtain ⟨σ', H', I, q⟩ := h; exact ⟨σ', H', I.unwish, q⟩
 | ret u => obtain ⟨v, σ', H', I, r, q⟩ := h; exact ⟨v, σ', H', I.unwish, r, q⟩
theorem PSs.nox {st : List Stmt} {t : TS} (h : PSs X.nox st t) : PSs X st t := fun pins s σ H D I hw =>
 wpAny_mono (h pins s σ H D (I.wish _) hw) (fun _ _ q => q.unwish) fun _ _ z => False.elim z
end
section
variable {X : Cx} {st : Stmt} {rest : List Stmt} {t u : TS} {e : Expr} {te : TE} {pos : Pos}
noncomputable def tNext : TS := fun D σ H => D.nx σ H
noncomputable def tSeq (t u : TS) : TS := fun D σ H => t { D with nx := u D } σ H
theorem pss_nil : PSs X [] tNext := fun _ _ σ H _ I h => wpAny_execs_nil ⟨σ, H, I, h⟩
theorem pss_cons (h1 : PS X st t) (h2 : PSs X rest u) : PSs X (st :: rest) (tSeq t u) := by
 intro pins s σ H D I h
 refine wpAny_execs_cons (thn (h1 pins s σ H { D with nx := u D } I h) fun f s1 q => ?_)
 cases f with
 | next =>
  obtain ⟨σ', H', I', q⟩ := q
  exact h2 pins s1 σ' H' D I' q
 | ret v => exact q
 | brk => exact q
 | cont => exact q
theorem pss_one (h1 : PS X st t) : PSs X [st] t := by
 intro pins s σ H D I h
 refine wpAny_execs_cons (thn (h1 pins s σ H D I h) fun f s1 q => ?_)
 cases f with
 | next => exact wpAny_execs_nil q
 | ret v => exact q
 | brk => exact q
 | cont => exact q
theorem Inv.quiet {pins : List (Addr × Obj)} {σ : St} {H : Hp} {s : Shared} (I : Inv X pins σ H s) : interactive X.env = false := by simp [interactive, I.ok.kind]
noncomputable def tDrop (te : TE) : TS := fun D σ H => te σ H fun _ H1 => D.nx σ H1
theorem ps_expr (he : PE X e te) (hs : swapsWith e none pos.line X.env = pure false := by rfl) : PS X (.Expr e pos) (tDrop te) := by
 intro pins s σ H D I h
 exact wpAny_Expr_any (thn (he pins s σ H _ I h) fun v s1 ⟨x, H1, I1, r1, q1⟩ => ⟨σ, H1, I1, q1⟩) I.quiet hs
noncomputable def tRet (te : TE) : TS := fun D σ H => te σ H D.rt
theorem ps_ret (he : PE X e te) : PS X (.Return (some e) pos) (tRet te) := by
 intro pins s σ H D I h
 exact wpAny_Return_some (thn (he pins s σ H _ I h) fun v s1 ⟨x, H1, I1, r1, q1⟩ => ⟨x, σ, H1, I1, r1, q1⟩)
noncomputable def tIfS (c : TT) (t u : TS) : TS := fun D σ H => c σ H fun b H1 => if b = true then t D σ H1 else u D σ H1
theorem ps_if {c : Expr} {a b : List Stmt} {tc : TT} (hc : PT X c tc) (ha : PSs X a t) (hb : PSs X b u) : PS X (.If c a b pos) (tIfS tc t u) := by
 intro pins s σ H D I h
 refine wpAny_If (thn (hc pins s σ H _ I h) fun d s1 hX11_ => ?_)
 obtain ⟨H1, I1, q1⟩ := hX11_
 cases d with
 | true => exact ha pins s1 σ H1 D I1 q1
 | false => exact hb pins s1 σ H1 D I1 q1
end
noncomputable abbrev TG := V → St → Hp → (St → Hp → Prop) → Prop
noncomputable def PG (X : Cx) (target : Expr) (t : TG) : Prop :=
 ∀ (pins : List (Addr × Obj)) (s : Shared) (σ : St) (H : Hp) (v : V) (u : Value) (Q : St → Hp → Prop), Inv X pins σ H s → RelV v u → t v σ H Q →
  wpAny (model X.prog X.w) X.A (assign target X.env u) (fun _ s' => ∃ σ' H', Inv X pins σ' H' s' ∧ Q σ' H') X.xe s
noncomputable abbrev TSet := V → V → V → Hp → (Hp → Prop) → Prop
noncomputable def PSet (X : Cx) (t : TSet) : Prop :=
 ∀ (pins : List (Addr × Obj)) (s : Shared) (σ : St) (H : Hp) (o i v : V) (ov iv u : Value) (Q : Hp → Prop), Inv X pins σ H s → RelV o ov → RelV i iv → RelV v u → t o i v H Q →
  wpAny (model X.prog X.w) X.A (setItem ov iv u) (fun _ s' => ∃ H', Inv X pins σ H' s' ∧ Q H') X.xe s
section
variable {X : Cx} {pos : Pos}
noncomputable def gName (i : Nat) : TG := fun v σ H Q => Q (σ.set i (some v)) H
theorem pg_name {i : Nat} {x : Str} (hN : X.N.Nodup) (hi : X.N[i]? = some x) (hx : Loc X.env.scope x) (hf : X.fn x = true ∨ X.env.scope.names.lookup x = some .local := by first | exact .inl rfl | exact .inr rfl | assumption) : PG X (.Name x pos) (gName i) := by
 intro pins s σ H v u Q I r h
 exact wpAny_assign_Name (store_ok I hN hi hx r (fun s' I' => ⟨_, H, I', h⟩) hf)
noncomputable def gSub (to ti : TE) (t : TSet) : TG := fun v σ H Q => to σ H fun o H1 => ti σ H1 fun i H2 => t o i v H2 fun H3 => Q σ H3
theorem pg_sub {o i : Expr} {to ti : TE} {t : TSet} (ho : PE X o to) (hi : PE X i ti) (hs : PSet X t)
  (ha : ∀ v, assign (.Subscript o i pos) X.env v = (do
   let ov ← holding [v] (eval o X.env)
   let iv ← holding [v, ov] (eval i X.env)
   standAt pos
   holding [v, ov, iv] (setItem ov iv v)
   release [v, ov, iv] []) := by intro _; rfl) : PG X (.Subscript o i pos) (gSub to ti t) := by
 intro pins s σ H v u Q I r h
 rw [ha]
 refine wpAny_bind (wpAny_holding (thn (ho pins s σ H _ I h) fun ov s1 hX11_ => ?_))
 obtain ⟨x, H1, I1, r1, q1⟩ := hX11_
 refine wpAny_bind (wpAny_holding (thn (hi pins s1 σ H1 _ I1 q1) fun iv s2 hX21_ => ?_))
 obtain ⟨y, H2, I2, r2, q2⟩ := hX21_
 refine wpAny_bind (wpAny_standAt (wpAny_bind (wpAny_holding (thn (hs pins s2 σ H2 x y v ov iv u _ I2 r1 r2 r q2) fun _ s3 hX31_ => ?_))))
 obtain ⟨H3, I3, q3⟩ := hX31_
 exact wpAny_release ⟨σ, H3, I3, q3⟩
noncomputable def tAsg (te : TE) (g : TG) : TS := fun D σ H => te σ H fun x H1 => g x σ H1 D.nx
theorem ps_asg {tg e : Expr} {te : TE} {g : TG} (he : PE X e te) (hg : PG X tg g) (hs : swapsWithSole [tg] e pos.line X.env = pure false := by rfl) (hw : swappedStores [tg] e X.env = pure none := by rfl)
  (h1 : (assignEach [tg] X.env).map (·.2) = [assign tg X.env] := by rfl) : PS X (.Assign [tg] e pos) (tAsg te g) := by
 intro pins s σ H D I h
 refine wpAny_Assign_stores (thn (he pins s σ H _ I h) fun v s1 hX11_ => ?_) hs hw
 obtain ⟨x, H1, I1, r1, q1⟩ := hX11_
 rw [h1]
 exact thn (hg pins s1 σ H1 x v _ I1 r1 q1) fun _ s2 q => q
theorem ps_set {i : Nat} {x : Str} {e : Expr} {te : TE} {pos' : Pos} (hN : X.N.Nodup) (hi : X.N[i]? = some x) (hx : Loc X.env.scope x) (he : PE X e te) (hs : swapsWith e (some (.Name x pos')) pos.line X.env = pure false := by rfl) (hf : X.fn x = true ∨ X.env.scope.names.lookup x = some .local := by first | exact .inl rfl | exact .inr rfl | assumption) :
  PS X (.Assign [.Name x pos'] e pos) (tAsg te (gName i)) := by
 intro pins s σ H D I h
 refine wpAny_Assign_Name (thn (he pins s σ H _ I h) fun v s1 hX11_ => ?_) hs
 obtain ⟨y, H1, I1, r1, q1⟩ := hX11_
 exact store_ok I1 hN hi hx r1 (fun s2 I2 => ⟨_, H1, I2, q1⟩) hf
end
section
variable {X : Cx} {pos : Pos}
end
structure It where
 go : Nat → Hp → Prop
 yld : Nat → Hp → V → Hp → Prop
 stop : Nat → Hp → Prop
noncomputable def FpOk (X : Cx) (pins : List (Addr × Obj)) (H : Hp) (b : Addr) : Prop :=
 H b = none ∧ b ≠ X.env.locals ∧ b ∉ X.fs ∧ (b ∈ X.ex ∨ X.s₀.heap.objs.size ≤ b) ∧ (∀ x c, X.env.cells.lookup x = some c → c ≠ b) ∧ ∀ p ∈ X.pn ++ pins, p.1 ≠ b
theorem Inv.fpOk {X : Cx} {pins : List (Addr × Obj)} {σ : St} {H H' : Hp} {s : Shared} {b : Addr} (I : Inv X pins σ H s) (hb : s.heap.objs.size ≤ b) (hn : H' b = none) : FpOk X pins H' b := by
 refine ⟨hn, Nat.ne_of_gt (Nat.lt_of_lt_of_le I.lt hb), I.nofs hb, .inr (Nat.le_trans I.sz hb), fun x c e z => ?_, fun p hp z => ?_⟩
 ·obtain ⟨v, q⟩ := I.cell x c e
  exact absurd (Nat.lt_of_lt_of_le q.lt (by rw [z]; exact hb)) (Nat.lt_irrefl _)
 ·exact absurd (Nat.lt_of_lt_of_le (Heap.lt_size (I.pin p hp).1) (by rw [z]; exact hb)) (Nat.lt_irrefl _)
structure Turn (P : Program) (w : World) (K : PySem.W.Frag) (tg : Expr) (J : It) (fp : List Addr) (it : Addr) (tn : Nat → Heap → Prop) : Prop where
 mem : it ∈ fp
 obj : ∀ i h, tn i h → ∀ b ∈ fp, ∃ o, h.get? b = some o ∧ ∀ v, o.data ≠ .cell v
 keep : ∀ i h h', tn i h → (∀ b ∈ fp, ∀ o, h.get? b = some o → h'.get? b = some o) → tn i h'
 item : ∀ (X : Cx), X.prog = P → X.w = w → X.K = K → X.calm = true → ∀ (i : Nat) (pins : List (Addr × Obj)) (s : Shared) (σ : St) (H : Hp) (E : Value → Shared → Prop), Inv X pins σ H s → (∀ b ∈ fp, FpOk X pins H b) → tn i s.heap → J.go i H →
  wpAny (model P w) X.A (pyNext (.ref it)) (fun r s1 => ∃ u, r = some u ∧
   wpAny (model P w) X.A (letOwnedTupleGo tg (.ref it) u) (fun _ s2 => ∃ x H', Inv X pins σ H' s2 ∧ RelV x u ∧ J.yld i H x H' ∧ tn (i + 1) s2.heap ∧ ∀ b ∈ fp, H' b = none) E s1) E s
 done : ∀ (X : Cx), X.prog = P → X.w = w → X.K = K → X.calm = true → ∀ (i : Nat) (pins : List (Addr × Obj)) (s : Shared) (σ : St) (H : Hp) (E : Value → Shared → Prop), Inv X pins σ H s → (∀ b ∈ fp, FpOk X pins H b) → tn i s.heap → J.stop i H →
  wpAny (model P w) X.A (pyNext (.ref it)) (fun r s1 => r = none ∧ Inv X pins σ H s1) E s
 self : ∀ (A : Around) (i : Nat) (s : Shared) (Q : Value → Shared → Prop) (E : Value → Shared → Prop), tn i s.heap → Q (.ref it) s → wpAny (model P w) A (pyIter (.ref it)) Q E s
noncomputable abbrev TI := St → Hp → (It → Hp → Prop) → Prop
noncomputable def PIE (X : Cx) (pins : List (Addr × Obj)) (σ : St) (tg : Expr) (R : It → Hp → Prop) (itv : Value) (s2 : Shared) : Prop :=
 ∃ (it : Addr) (fp : List Addr) (tn : Nat → Heap → Prop) (J : It) (H' : Hp), itv = .ref it ∧ Inv X pins σ H' s2 ∧ Turn X.prog X.w X.K tg J fp it tn ∧ tn 0 s2.heap ∧ (∀ b ∈ fp, FpOk X pins H' b) ∧ R J H'
noncomputable def PI (X : Cx) (tg iter : Expr) (wi : TI) : Prop :=
 ∀ (pins : List (Addr × Obj)) (s : Shared) (σ : St) (H : Hp) (R : It → Hp → Prop), Inv X pins σ H s → wi σ H R →
  wpAny (model X.prog X.w) X.A (eval iter X.env) (fun v s1 => wpAny (model X.prog X.w) X.A (pyIter v) (PIE X pins σ tg R) X.xe s1) X.xe s
theorem go_of {M : Model} {A : Around} {E : Value → Shared → Prop} {s : Shared} {tg : Expr} {it : Addr} {u : Value} {o : Obj} {n : String} {vs : Array Value} {Q : Unit → Shared → Prop} (ho : s.heap.get? it = some o) (hc : o.cls = .type n) (hd : o.data = .fields vs)
    (hn : ["enumerate", "zip", "dict_itemiterator", "dict_reverseitemiterator", "odict_iterator", "itertools.zip_longest", "itertools.pairwise"].contains n = false) (hQ : Q () s) : wpAny M A (letOwnedTupleGo tg (.ref it) u) Q E s := by
  unfold letOwnedTupleGo
  cases tg <;> first
    | exact wpAny_pure hQ
    | (cases u <;> first
        | exact wpAny_pure hQ
        | (refine wpAny_bind (wpAny_load ho ?_)
           rw [hc, hd]
           show wpAny M A (if (["enumerate", "zip", "dict_itemiterator", "dict_reverseitemiterator", "odict_iterator", "itertools.zip_longest", "itertools.pairwise"].contains n && vs[0]? == some (rawInt _)) = true then _ else _) Q E s
           rw [if_neg (by intro h; rw [hn, Bool.false_and] at h; cases h)]
           exact wpAny_pure hQ))
noncomputable def Itl (K : PySem.W.Frag) (a : Addr) : It :=
 ⟨fun i H => ∃ xs x, SqL K H a xs ∧ xs[i]? = some x, fun i H x H' => H' = H ∧ ∀ xs, SqL K H a xs → xs[i]? = some x, fun i H => ∃ xs, SqL K H a xs ∧ xs.length ≤ i⟩
noncomputable def Itt (K : PySem.W.Frag) (a : Addr) : It :=
 ⟨fun i H => ∃ xs x, SqT K H a xs ∧ xs[i]? = some x, fun i H x H' => H' = H ∧ ∀ xs, SqT K H a xs → xs[i]? = some x, fun i H => ∃ xs, SqT K H a xs ∧ xs.length ≤ i⟩
noncomputable def Itr (lo : Int) (n : Nat) : It := ⟨fun i _ => i < n, fun i H x H' => H' = H ∧ x = .int (lo + i), fun i _ => n ≤ i⟩
theorem turn_list {P : Program} {w : World} {K : PySem.W.Frag} {tg : Expr} (a it : Addr) : Turn P w K tg (Itl K a) [it] it (fun i h => h.IsListIter it a i) where
 mem := by simp
 obj := fun i h st b hb => by
  have e : b = it := by simpa using hb
  subst e
  obtain ⟨o, e, c, d⟩ := st
  exact ⟨o, e, fun v z => by rw [d] at z; cases z⟩
 keep := fun i h h' st k => st.at fun o e => k it (by simp) o e
 item := by
  intro X hP hw hK hc i pins s σ H E I hf st hg
  subst hP hw hK
  obtain ⟨xs, x, hq, hx⟩ := hg
  obtain ⟨its, rv, p, hz⟩ := I.list hq
  obtain ⟨u, hu, ru⟩ := rv.get hx
  obtain ⟨f0, f1, f2, f3, f4, f5⟩ := hf it (by simp)
  refine wpAny_pyNext_list_item st p.isList (x := u) (by simpa using hu) fun h' st' sb => ?_
  have I1 : Inv X pins σ H { s with heap := h' } := I.turned (t' := s.toks) (fun b o hb e => (sb.2 b hb).trans e) f0 f1 f3 f4 f5
  obtain ⟨o, e, c, d⟩ := id st'
  exact ⟨u, rfl, go_of (s := { s with heap := h' }) e c d (by decide) ⟨x, H, I1, ru, ⟨rfl, fun ys hy => by rw [I.list_inj hy hq]; exact hx⟩, st', fun b hb => (hf b hb).1⟩⟩
 done := by
  intro X hP hw hK hc i pins s σ H E I hf st hg
  subst hP hw hK
  obtain ⟨xs, hq, hx⟩ := hg
  obtain ⟨its, rv, p, hz⟩ := I.list hq
  obtain ⟨f0, f1, f2, f3, f4, f5⟩ := hf it (by simp)
  have hl := rv.length
  exact wpAny_pyNext_list_end (I.ok.hd hc) st p.isList (by simp; lia) fun h' eb => ⟨rfl, I.turned (t' := s.toks) (fun b o hb e => eb b o hb e) f0 f1 f3 f4 f5⟩
 self := fun _ _ _ _ _ st h => wpAny_pyIter_listiter st h
theorem turn_tuple {P : Program} {w : World} {K : PySem.W.Frag} {tg : Expr} (a it : Addr) : Turn P w K tg (Itt K a) [it] it (fun i h => h.IsTupleIter it a i) where
 mem := by simp
 obj := fun i h st b hb => by
  have e : b = it := by simpa using hb
  subst e
  obtain ⟨o, e, c, d⟩ := st
  exact ⟨o, e, fun v z => by rw [d] at z; cases z⟩
 keep := fun i h h' st k => st.at fun o e => k it (by simp) o e
 item := by
  intro X hP hw hK hc i pins s σ H E I hf st hg
  subst hP hw hK
  obtain ⟨xs, x, hq, hx⟩ := hg
  obtain ⟨its, rv, p, hz⟩ := I.tuple hq
  obtain ⟨u, hu, ru⟩ := rv.get hx
  obtain ⟨f0, f1, f2, f3, f4, f5⟩ := hf it (by simp)
  refine wpAny_pyNext_tuple_item st (show s.heap.IsTuple a its.toArray from p) (x := u) (by simpa using hu) fun h' st' sb => ?_
  have I1 : Inv X pins σ H { s with heap := h' } := I.turned (t' := s.toks) (fun b o hb e => (sb.2 b hb).trans e) f0 f1 f3 f4 f5
  obtain ⟨o, e, c, d⟩ := id st'
  exact ⟨u, rfl, go_of (s := { s with heap := h' }) e c d (by decide) ⟨x, H, I1, ru, ⟨rfl, fun ys hy => by rw [I.tuple_inj hy hq]; exact hx⟩, st', fun b hb => (hf b hb).1⟩⟩
 done := by
  intro X hP hw hK hc i pins s σ H E I hf st hg
  subst hP hw hK
  obtain ⟨xs, hq, hx⟩ := hg
  obtain ⟨its, rv, p, hz⟩ := I.tuple hq
  obtain ⟨f0, f1, f2, f3, f4, f5⟩ := hf it (by simp)
  have hl := rv.length
  exact wpAny_pyNext_tuple_end (I.ok.hd hc) st (show s.heap.IsTuple a its.toArray from p) (by simp; lia) fun h' eb => ⟨rfl, I.turned (t' := s.toks) (fun b o hb e => eb b o hb e) f0 f1 f3 f4 f5⟩
 self := fun _ _ _ _ _ st h => wpAny_pyIter_tupleiter st h
theorem turn_range {P : Program} {w : World} {K : PySem.W.Frag} {tg : Expr} (it : Addr) (lo : Int) (n : Nat) : Turn P w K tg (Itr lo n) [it] it (fun i h => IsRangeIter h it (lo + (i : Nat) * 1) ((n : Int) - (i : Nat)) 1) where
 mem := by simp
 obj := fun i h st b hb => by
  have e : b = it := by simpa using hb
  subst e
  exact ⟨_, st, fun v z => by
   have z' : Data.fields _ = Data.cell v := z
   cases z'⟩
 keep := fun i h h' st k => k it (by simp) _ st
 item := by
  intro X hP hw hK hc i pins s σ H E I hf st hg
  subst hP hw hK
  obtain ⟨f0, f1, f2, f3, f4, f5⟩ := hf it (by simp)
  have W := Walks.range (prog := X.prog) (w := X.w) (I.ok.hd hc) it lo 1 n
  refine W.item i s _ _ hg st fun v h' tk hv st' kk => ?_
  obtain ⟨t, rfl⟩ := hv
  have I1 : Inv X pins σ H { s with heap := h', toks := tk } := I.turned (fun b o hb e => kk b o (by simpa using hb) e) f0 f1 f3 f4 f5
  refine ⟨_, rfl, go_of (s := { s with heap := h', toks := tk }) (n := "range_iterator") st' rfl rfl (by decide) ⟨.int (lo + i), H, I1, ⟨t, ?_⟩, ⟨rfl, rfl⟩, st', fun b hb => (hf b hb).1⟩⟩
  rw [Int.mul_one]
 done := by
  intro X hP hw hK hc i pins s σ H E I hf st hg
  subst hP hw hK
  obtain ⟨f0, f1, f2, f3, f4, f5⟩ := hf it (by simp)
  exact wpAny_pyNext_range_end (I.ok.hd hc) st (by have : n ≤ i := hg; lia) fun h' eb => ⟨rfl, I.turned (t' := s.toks) (fun b o hb e => eb b o hb e) f0 f1 f3 f4 f5⟩
 self := fun _ _ _ _ _ st h => wpAny_pyIter_rangeiter st h
end L2
namespace L2
open PySem PySem.Spec PyProof.Rows
section
variable {X : Cx} {tg : Expr}
theorem range_it {pins : List (Addr × Obj)} {σ : St} {H : Hp} {s : Shared} {R : It → Hp → Prop} {E : Value → Shared → Prop} {lo hi : Int} {t u v : Tok} {tk : Nat} (I : Inv X pins σ H s) (h1 : -(2 ^ 62) ≤ lo) (h2 : lo < 2 ^ 62) (h3 : -(2 ^ 62) ≤ hi) (h4 : hi < 2 ^ 62)
  (q : R (Itr lo (hi - lo).toNat) H) : wpAny (model X.prog X.w) X.A (pyIter (.ref s.heap.objs.size)) (PIE X pins σ tg R) E { s with heap := s.heap.push { cls := .type "range", data := .fields #[.int lo t, .int hi u, .int 1 v] }, toks := tk } := by
 refine wpAny_pyIter_range (IsRange.new ..) (small_one h1 h2 h3 h4) ?_
 have I1 : Inv X pins σ H { s with heap := s.heap.push { cls := .type "range", data := .fields #[.int lo t, .int hi u, .int 1 v] }, toks := tk } := I.kept fun b o e => Heap.get?_push_of_some _ e
 refine ⟨(s.heap.push { cls := .type "range", data := .fields #[.int lo t, .int hi u, .int 1 v] }).objs.size, [(s.heap.push { cls := .type "range", data := .fields #[.int lo t, .int hi u, .int 1 v] }).objs.size], _, _, H, rfl,
  I1.kept (t' := tk) fun b o e => Heap.get?_push_of_some _ e, turn_range _ lo (hi - lo).toNat, ?_, fun b hb => ?_, q⟩
 ·have e1 : lo + ((0 : Nat) : Int) * 1 = lo := by simp
  have e2 : (((hi - lo).toNat : Nat) : Int) - ((0 : Nat) : Int) = Builtin.Range.rangeSize lo hi 1 := by rw [rangeSize_one]; split <;> lia
  show IsRangeIter _ _ (lo + ((0 : Nat) : Int) * 1) ((((hi - lo).toNat : Nat) : Int) - ((0 : Nat) : Int)) 1
  rw [e1, e2]
  exact Heap.get?_push_size _ rfl
 ·have e : b = (s.heap.push { cls := .type "range", data := .fields #[.int lo t, .int hi u, .int 1 v] }).objs.size := by simpa using hb
  subst e
  exact I1.fpOk (Nat.le_refl _) (I1.hok.fresh (Nat.le_refl _))
noncomputable def iRng1 (ta : TA) : TI := fun σ H R => ta σ H fun vs H1 => ∃ j : Int, vs = [.int j] ∧ -(2 ^ 62) ≤ j ∧ j < 2 ^ 62 ∧ R (Itr 0 j.toNat) H1
theorem pi_range1 {a : Expr} {ta : TA} {p pos : Pos} (hg : Gl X "range") (hm : X.mg "range" = none) (ha : PA X [a] ta) (hs : starEach [a] X.env = [(false, eval a X.env)] := by rfl) : PI X tg (.Call (.Name "range" p) [a] [] pos) (iRng1 ta) := by
 intro pins s σ H R I h
 refine Call_ (ld_blt I hg hm boot_range (PyProof.Rows.callWith_type1 (thn (ha pos pins s σ H _ I h) fun us s1 hX11_ => ?_) hs rfl))
 obtain ⟨vs, H1, I1, r1, q1⟩ := hX11_
 obtain ⟨j, e, q1, q2, q⟩ := q1
 subst e
 cases r1 with
 | cons r rr =>
  cases rr
  obtain ⟨t, rfl⟩ := r
  exact call_range_1 (range_it I1 (by lia) (by lia) q1 q2 (by simpa using q))
noncomputable def tFor (wi : TI) (g : TG) (tb : TS) : TS := fun D σ H => wi σ H fun J H1 => ∃ W : Nat → Nat → St → Hp → Prop, (∃ m, W 0 m σ H1) ∧ ∀ i m σ H, W i m σ H →
 (J.stop i H ∧ D.nx σ H) ∨ (J.go i H ∧ ∃ N : St → Hp → Prop, (∀ σ' H', N σ' H' → ∃ m', m' < m ∧ W (i + 1) m' σ' H') ∧ ∀ x H', J.yld i H x H' → g x σ H' fun σ2 H2 => tb { D with nx := N, ct := N, bk := D.nx } σ2 H2)
noncomputable def pinsAt (fp : List Addr) (h : Heap) : List (Addr × Obj) := fp.filterMap fun b => (h.get? b).map fun o => (b, o)
theorem mem_pinsAt {fp : List Addr} {h : Heap} {b : Addr} {o : Obj} (hb : b ∈ fp) (e : h.get? b = some o) : (b, o) ∈ pinsAt fp h := List.mem_filterMap.mpr ⟨b, hb, by rw [e]; rfl⟩
theorem of_pinsAt {fp : List Addr} {h : Heap} {p : Addr × Obj} (hp : p ∈ pinsAt fp h) : p.1 ∈ fp ∧ h.get? p.1 = some p.2 := by
 obtain ⟨b, hb, e⟩ := List.mem_filterMap.mp hp
 cases q : h.get? b with
 | none => rw [q] at e; cases e
 | some o =>
  rw [q] at e
  have e' : (b, o) = p := Option.some.inj e
  subst e'
  exact ⟨hb, q⟩
theorem Inv.pinned {pins : List (Addr × Obj)} {σ : St} {H : Hp} {s : Shared} {fp : List Addr} (I : Inv X pins σ H s) (hf : ∀ b ∈ fp, FpOk X pins H b) (ho : ∀ b ∈ fp, ∃ o, s.heap.get? b = some o ∧ ∀ v, o.data ≠ .cell v) : Inv X (pins ++ pinsAt fp s.heap) σ H s :=
 I.pins_of fun p hp => (List.mem_append.mp hp).elim (fun z => I.pin p (List.mem_append_right _ z)) fun z => by
  obtain ⟨hb, e⟩ := of_pinsAt z
  obtain ⟨f0, f1, f2, _⟩ := hf p.1 hb
  obtain ⟨o, e', d⟩ := ho p.1 hb
  rw [e] at e'; cases e'
  exact ⟨e, f0, f1, f2, d⟩
theorem Inv.unpinned {pins pl : List (Addr × Obj)} {σ : St} {H : Hp} {s : Shared} (I : Inv X (pins ++ pl) σ H s) : Inv X pins σ H s := I.pins_of fun p hp => I.pin p (List.mem_append_right _ (List.mem_append_left _ hp))
theorem ps_for {iter : Expr} {body : List Stmt} {wi : TI} {g : TG} {tb : TS} {pos : Pos} (hp : PassesOwn (model X.prog X.w) X.A X.env X.xe) (hc : X.calm = true) (hi : PI X tg iter wi) (hg : PG X tg g) (hb : PSs X body tb)
  (hs : ∀ x, foldedSetIterable iter X.env x = pure x := by intro _; rfl) : PS X (.For tg iter body [] pos) (tFor wi g tb) := by
 intro pins s σ H D I h
 refine wpAny_For (thn (hi pins s σ H _ I h) fun v s1 h1 => thn h1 fun itv s2 h2 => ?_) hs
 obtain ⟨it, fp, tn, J, H2, e, I2, T, st2, f2, W, ⟨m0, w0⟩, turn⟩ := h2
 subst e
 have stat : ∀ {H' : Hp}, (∀ b ∈ fp, H' b = none) → ∀ b ∈ fp, FpOk X pins H' b := fun hn b hb => ⟨hn b hb, (f2 b hb).2⟩
 refine codeAny_forLoop_any (fun n s' => ∃ i σ' H', Inv X pins σ' H' s' ∧ tn i s'.heap ∧ (∀ b ∈ fp, H' b = none) ∧ W i n σ' H') ?_ m0 ⟨0, σ, H2, I2, st2, fun b hb => (f2 b hb).1, w0⟩
 rintro n s3 ⟨i, σ3, H3, I3, st3, fr3, w3⟩
 rcases turn i n σ3 H3 w3 with ⟨stop, qn⟩ | ⟨go, N, hN, step⟩
 ·refine wpAny_passesOwn hp (thn (T.done X rfl rfl rfl hc i pins s3 σ3 H3 X.xe I3 (stat fr3) st3 stop) fun r s4 ⟨hr, I4⟩ => ?_)
  subst hr
  exact wpAny_execs_nil ⟨σ3, H3, I4, qn⟩
 ·refine wpAny_passesOwn hp (thn (T.item X rfl rfl rfl hc i pins s3 σ3 H3 X.xe I3 (stat fr3) st3 go) fun r s4 ⟨u, hr, h4⟩ => ?_)
  subst hr
  refine wpAny_passesOwn hp (thn h4 fun _ s5 hX11_ => ?_)
  obtain ⟨x, H5, I5, r5, y5, st5, fr5⟩ := hX11_
  have I5' := I5.pinned (stat fr5) (T.obj _ _ st5)
  refine wpAny_passesOwn hp (thn (hg _ s5 σ3 H5 x u _ I5' r5 (step x H5 y5)) fun _ s6 hX21_ => ?_)
  obtain ⟨σ6, H6, I6, q6⟩ := hX21_
  refine wpAny_passesOwn hp (thn (hb _ s6 σ6 H6 _ I6 q6) fun f s7 q7 => ?_)
  have again : ∀ {σ7 : St} {H7 : Hp}, Inv X (pins ++ pinsAt fp s5.heap) σ7 H7 s7 → N σ7 H7 → ∃ m, m < n ∧ ∃ i σ' H', Inv X pins σ' H' s7 ∧ tn i s7.heap ∧ (∀ b ∈ fp, H' b = none) ∧ W i m σ' H' := fun {σ7 H7} I7 n7 => by
   obtain ⟨m', hm, w7⟩ := hN σ7 H7 n7
   refine ⟨m', hm, i + 1, σ7, H7, I7.unpinned, T.keep _ _ _ st5 fun b hb o e => (I7.pin (b, o) (List.mem_append_right _ (List.mem_append_right _ (mem_pinsAt hb e)))).1, fun b hb => ?_, w7⟩
   obtain ⟨o, e, d⟩ := T.obj _ _ st5 b hb
   exact (I7.pin (b, o) (List.mem_append_right _ (List.mem_append_right _ (mem_pinsAt hb e)))).2.1
  cases f with
  | next => obtain ⟨σ7, H7, I7, n7⟩ := q7; exact again I7 n7
  | cont => obtain ⟨σ7, H7, I7, n7⟩ := q7; exact again I7 n7
  | brk => obtain ⟨σ7, H7, I7, q7⟩ := q7; exact ⟨σ7, H7, I7.unpinned, q7⟩
  | ret v => obtain ⟨x7, σ7, H7, I7, r7, q7⟩ := q7; exact ⟨x7, σ7, H7, I7.unpinned, r7, q7⟩
end
end L2
namespace L2
open PySem PySem.Spec PyProof.Rows
noncomputable abbrev R2 := V → V → Hp → VK → Prop
noncomputable def OpR (X : Cx) (f : Value → Value → Sem Value) (r : R2) : Prop :=
 ∀ (pins : List (Addr × Obj)) (s : Shared) (σ : St) (H : Hp) (x y : V) (v u : Value) (Q : VK), Inv X pins σ H s → RelV x v → RelV y u → r x y H Q →
  wpAny (model X.prog X.w) X.A (f v u) (EP X pins σ Q) X.xe s
noncomputable def CallR (X : Cx) (f : Value) (r : List V → Hp → VK → Prop) : Prop :=
 ∀ (pins : List (Addr × Obj)) (s : Shared) (σ : St) (H : Hp) (xs : List V) (us : List Value) (Q : VK), Inv X pins σ H s → Vals xs us → r xs H Q →
  wpAny (model X.prog X.w) X.A (call f us) (EP X pins σ Q) X.xe s
noncomputable def tOp (r : R2) (ta tb : TE) : TE := fun σ H Q => ta σ H fun x H1 => tb σ H1 fun y H2 => r x y H2 Q
noncomputable def tUn (r : V → Hp → VK → Prop) (ta : TE) : TE := fun σ H Q => ta σ H fun x H1 => r x H1 Q
noncomputable def rI (C : Int → Int → Prop) (g : Int → Int → V) : R2 := fun x y H Q => ∃ i j, x = .int i ∧ y = .int j ∧ C i j ∧ Q (g i j) H
noncomputable def rI0 (g : Int → Int → V) : R2 := fun x y H Q => ∃ i j, x = .int i ∧ y = .int j ∧ Q (g i j) H
section
variable {X : Cx} {a b c : Expr} {ta tb tc : TE} {pos : Pos}
theorem binT (ha : PE X a ta) (hb : PE X b tb) {pins : List (Addr × Obj)} {s : Shared} {σ : St} {H : Hp} {R : V → V → Hp → Prop} (I : Inv X pins σ H s)
  (h : ta σ H fun x H1 => tb σ H1 fun y H2 => R x y H2) {Q : Value → Shared → Prop} {f : Value → Value → Sem Value}
  (hf : ∀ v u s2 x y H2, Inv X pins σ H2 s2 → RelV x v → RelV y u → R x y H2 → wpAny (model X.prog X.w) X.A (f v u) Q X.xe s2) :
  wpAny (model X.prog X.w) X.A (eval a X.env) (fun v s₁ => wpAny (model X.prog X.w) X.A (eval b X.env) (fun u s₂ => wpAny (model X.prog X.w) X.A (f v u) Q X.xe s₂) X.xe s₁) X.xe s := by
 refine thn (ha pins s σ H _ I h) fun v s1 hX11_ => ?_
 obtain ⟨x, H1, I1, r1, q1⟩ := hX11_
 refine thn (hb pins s1 σ H1 _ I1 q1) fun u s2 hX21_ => ?_
 obtain ⟨y, H2, I2, r2, q2⟩ := hX21_
 exact hf v u s2 x y H2 I2 r1 r2 q2
theorem pe_op {op : Operator} {r : R2} (ho : OpR X (binaryOp op) r) (ha : PE X a ta) (hb : PE X b tb) : PE X (.BinOp a op b pos) (tOp r ta tb) := by
 intro pins s σ H Q I h
 exact wpAny_BinOp (binT ha hb I h fun v u s2 x y H2 I2 rx ry q => ho pins s2 σ H2 x y v u Q I2 rx ry q)
theorem opI {f : Value → Value → Sem Value} {C : Int → Int → Prop} {g : Int → Int → Int}
  (rule : ∀ (i j : Int) (t u : Tok) (s : Shared) (Q : Value → Shared → Prop) (E : Value → Shared → Prop), C i j → Q (.int (g i j) s.toks) { s with toks := s.toks + 1 } → wpAny (model X.prog X.w) X.A (f (.int i t) (.int j u)) Q E s) :
  OpR X f (rI C fun i j => .int (g i j)) := by
 intro pins s σ H x y v u Q I rx ry h
 obtain ⟨i, j, rfl, rfl, hc, q⟩ := h
 obtain ⟨t, rfl⟩ := rx
 obtain ⟨t', rfl⟩ := ry
 exact rule i j t t' s _ _ hc ⟨.int (g i j), H, I.tok _, ⟨_, rfl⟩, q⟩
theorem opI0 {f : Value → Value → Sem Value} {g : Int → Int → Int}
  (rule : ∀ (i j : Int) (t u : Tok) (s : Shared) (Q : Value → Shared → Prop) (E : Value → Shared → Prop), Q (.int (g i j) s.toks) { s with toks := s.toks + 1 } → wpAny (model X.prog X.w) X.A (f (.int i t) (.int j u)) Q E s) :
  OpR X f (rI0 fun i j => .int (g i j)) := by
 intro pins s σ H x y v u Q I rx ry h
 obtain ⟨i, j, rfl, rfl, q⟩ := h
 obtain ⟨t, rfl⟩ := rx
 obtain ⟨t', rfl⟩ := ry
 exact rule i j t t' s _ _ ⟨.int (g i j), H, I.tok _, ⟨_, rfl⟩, q⟩
theorem opB0 {f : Value → Value → Sem Value} {g : Int → Int → Bool}
  (rule : ∀ (i j : Int) (t u : Tok) (s : Shared) (Q : Value → Shared → Prop) (E : Value → Shared → Prop), Q (.bool (g i j)) s → wpAny (model X.prog X.w) X.A (f (.int i t) (.int j u)) Q E s) :
  OpR X f (rI0 fun i j => .bl (g i j)) := by
 intro pins s σ H x y v u Q I rx ry h
 obtain ⟨i, j, rfl, rfl, q⟩ := h
 obtain ⟨t, rfl⟩ := rx
 obtain ⟨t', rfl⟩ := ry
 exact rule i j t t' s _ _ ⟨.bl (g i j), H, I, rfl, q⟩
noncomputable def CDiv (i j : Int) : Prop := 0 < j ∧ j < 1073741824
noncomputable def CMul (i j : Int) : Prop := (-(2 ^ 64) < i ∧ i < 2 ^ 64) ∨ (-(2 ^ 64) < j ∧ j < 2 ^ 64)
theorem CMul.ok {i j : Int} (h : CMul i j) : IntMulOk i j := by
 rcases h with ⟨h1, h2⟩ | ⟨h1, h2⟩
 ·exact .of_left (intBits_le_64 h1 h2)
 ·exact .of_right (intBits_le_64 h1 h2)
theorem two_pow_nn (k : Nat) : (0 : Int) ≤ 2 ^ k := by
 rw [two_pow_cast]
 exact Int.natCast_nonneg _
theorem op_add : OpR X (binaryOp .Add) (rI0 fun i j => .int (i + j)) := opI0 fun _ _ _ _ _ _ _ q => add_int q
theorem op_sub : OpR X (binaryOp .Sub) (rI0 fun i j => .int (i - j)) := opI0 fun _ _ _ _ _ _ _ q => sub_int q
theorem op_mul : OpR X (binaryOp .Mult) (rI CMul fun i j => .int (i * j)) := opI fun _ _ _ _ _ _ _ hc q => mul_int q hc.ok
theorem op_fdiv : OpR X (binaryOp .FloorDiv) (rI CDiv fun i j => .int (i / j)) := opI fun i j _ _ _ _ _ hc q => by
 have h1 : (0 : Int) < j := hc.1
 have h2 : j < 1073741824 := hc.2
 exact floordiv_int (by lia) (by rw [Int.fdiv_eq_ediv_of_nonneg i (by lia)]; exact q) (.inl (PyProof.noPylong_small (by lia)))
theorem op_mod : OpR X (binaryOp .Mod) (rI (fun _ j => 0 < j) fun i j => .int (i % j)) := opI fun i j _ _ _ _ _ hc q => by
 have h1 : (0 : Int) < j := hc
 exact mod_int' (by lia) (by rw [Int.fmod_eq_emod_of_nonneg i (by lia)]; exact q)
theorem op_shr : OpR X (binaryOp .RShift) (rI (fun _ j => 0 ≤ j) fun i j => .int (i / 2 ^ j.toNat)) := opI fun i j _ _ _ _ _ hc q =>
 rshift_int hc (by rw [Int.fdiv_eq_ediv_of_nonneg i (two_pow_nn _)]; exact q)
theorem op_and : OpR X (binaryOp .BitAnd) (rI0 fun i j => .int (Builtin.bitAnd i j)) := opI0 fun _ _ _ _ _ _ _ q => and_int q
end
noncomputable def scal : V → V → Bool
 | .non, .non => true | .non, .int _ => true | .int _, .non => true | .non, .bl _ => true | .bl _, .non => true | .non, .str _ => true | .str _, .non => true
 | .int _, .int _ => true | .bl _, .bl _ => true | .str _, .str _ => true | .byt _, .byt _ => true
 | .int _, .str _ => true | .str _, .int _ => true | .bl _, .str _ => true | .str _, .bl _ => true
 | _, _ => false
noncomputable def rEq : R2 := fun x y H Q => scal x y = true ∧ Q (.bl (decide (x = y))) H
noncomputable def rNe : R2 := fun x y H Q => scal x y = true ∧ Q (.bl (!decide (x = y))) H
theorem dec_int {i j : Int} : decide (V.int i = V.int j) = (i == j) := by
 rw [Bool.eq_iff_iff]
 simp
theorem dec_bl {i j : Bool} : decide (V.bl i = V.bl j) = (i == j) := by
 rw [Bool.eq_iff_iff]
 simp
theorem dec_str {i j : Str} : decide (V.str i = V.str j) = (i == j) := by
 rw [Bool.eq_iff_iff]
 simp
theorem dec_byt {i j : Array UInt8} : decide (V.byt i = V.byt j) = (i.toList == j.toList) := by
 rw [Bool.eq_iff_iff]
 cases i
 cases j
 simp
section
variable {X : Cx} {a b c : Expr} {ta tb tc : TE} {pos : Pos}
theorem fin_bl {pins : List (Addr × Obj)} {σ : St} {H : Hp} {s : Shared} {Q : VK} {k k' : Bool} (I : Inv X pins σ H s) (q : Q (.bl k) H) (e : k = k') : EP X pins σ Q (.bool k') s := by
 subst e
 exact ⟨.bl k, H, I, rfl, q⟩
theorem op_eq : OpR X (compareOp .Eq) rEq := by
 intro pins s σ H x y v u Q I rx ry h
 obtain ⟨hs, q⟩ := h
 cases x with
 | non =>
  cases rx
  cases y with
  | non => cases ry; exact PySem.EqNone.eq_none_none (fin_bl I q (by simp))
  | bl j => cases ry; exact PySem.EqNone.eq_none_bool (fin_bl I q (by simp))
  | int j => obtain ⟨t', rfl⟩ := ry; exact PySem.EqNone.eq_none_int (fin_bl I q (by simp))
  | str j => obtain ⟨t', rfl⟩ := ry; exact PySem.EqNone.eq_none_str (fin_bl I q (by simp))
  | _ => exact absurd (show false = true from hs) Bool.false_ne_true
 | bl i =>
  cases rx
  cases y with
  | non => cases ry; exact PySem.EqNone.eq_bool_none (fin_bl I q (by simp))
  | bl j => cases ry; exact eq_bool (fin_bl I q dec_bl)
  | str j => obtain ⟨t', rfl⟩ := ry; exact PySem.EqMixed.eq_bool_str (fin_bl I q (by simp))
  | _ => exact absurd (show false = true from hs) Bool.false_ne_true
 | int i =>
  obtain ⟨t, rfl⟩ := rx
  cases y with
  | non => cases ry; exact PySem.EqNone.eq_int_none (fin_bl I q (by simp))
  | int j => obtain ⟨t', rfl⟩ := ry; exact eq_int (fin_bl I q dec_int)
  | str j => obtain ⟨t', rfl⟩ := ry; exact PySem.EqMixed.eq_int_str (fin_bl I q (by simp))
  | _ => exact absurd (show false = true from hs) Bool.false_ne_true
 | str i =>
  obtain ⟨t, rfl⟩ := rx
  cases y with
  | non => cases ry; exact PySem.EqNone.eq_str_none (fin_bl I q (by simp))
  | bl j => cases ry; exact PySem.EqMixed.eq_str_bool (fin_bl I q (by simp))
  | int j => obtain ⟨t', rfl⟩ := ry; exact PySem.EqMixed.eq_str_int (fin_bl I q (by simp))
  | str j => obtain ⟨t', rfl⟩ := ry; exact eq_str (fin_bl I q dec_str)
  | _ => exact absurd (show false = true from hs) Bool.false_ne_true
 | byt i =>
  obtain ⟨t, rfl⟩ := rx
  cases y with
  | byt j => obtain ⟨t', rfl⟩ := ry; exact PySem.W.eq_bytes (fin_bl I q dec_byt)
  | _ => exact absurd (show false = true from hs) Bool.false_ne_true
 | _ => cases y <;> exact absurd (show false = true from hs) Bool.false_ne_true
theorem op_ne : OpR X (compareOp .NotEq) rNe := by
 intro pins s σ H x y v u Q I rx ry h
 obtain ⟨hs, q⟩ := h
 cases x with
 | non =>
  cases rx
  cases y with
  | non => cases ry; exact PySem.EqNone.ne_none_none (fin_bl I q (by simp))
  | bl j => cases ry; exact PySem.EqNone.ne_none_bool (fin_bl I q (by simp))
  | int j => obtain ⟨t', rfl⟩ := ry; exact PySem.EqNone.ne_none_int (fin_bl I q (by simp))
  | str j => obtain ⟨t', rfl⟩ := ry; exact PySem.EqNone.ne_none_str (fin_bl I q (by simp))
  | _ => exact absurd (show false = true from hs) Bool.false_ne_true
 | bl i =>
  cases rx
  cases y with
  | non => cases ry; exact PySem.EqNone.ne_bool_none (fin_bl I q (by simp))
  | bl j => cases ry; exact ne_bool (fin_bl I q (congrArg not dec_bl))
  | str j => obtain ⟨t', rfl⟩ := ry; exact PySem.EqMixed.ne_bool_str (fin_bl I q (by simp))
  | _ => exact absurd (show false = true from hs) Bool.false_ne_true
 | int i =>
  obtain ⟨t, rfl⟩ := rx
  cases y with
  | non => cases ry; exact PySem.EqNone.ne_int_none (fin_bl I q (by simp))
  | int j => obtain ⟨t', rfl⟩ := ry; exact ne_int (fin_bl I q (congrArg not dec_int))
  | str j => obtain ⟨t', rfl⟩ := ry; exact PySem.EqMixed.ne_int_str (fin_bl I q (by simp))
  | _ => exact absurd (show false = true from hs) Bool.false_ne_true
 | str i =>
  obtain ⟨t, rfl⟩ := rx
  cases y with
  | non => cases ry; exact PySem.EqNone.ne_str_none (fin_bl I q (by simp))
  | bl j => cases ry; exact PySem.EqMixed.ne_str_bool (fin_bl I q (by simp))
  | int j => obtain ⟨t', rfl⟩ := ry; exact PySem.EqMixed.ne_str_int (fin_bl I q (by simp))
  | str j => obtain ⟨t', rfl⟩ := ry; exact ne_str (fin_bl I q (congrArg not dec_str))
  | _ => exact absurd (show false = true from hs) Bool.false_ne_true
 | byt i =>
  obtain ⟨t, rfl⟩ := rx
  cases y with
  | byt j => obtain ⟨t', rfl⟩ := ry; exact PySem.W.ne_bytes (fin_bl I q (congrArg not dec_byt))
  | _ => exact absurd (show false = true from hs) Bool.false_ne_true
 | _ => cases y <;> exact absurd (show false = true from hs) Bool.false_ne_true
theorem op_lt : OpR X (compareOp .Lt) (rI0 fun i j => .bl (decide (i < j))) := opB0 fun _ _ _ _ _ _ _ q => lt_int q
theorem op_ge : OpR X (compareOp .GtE) (rI0 fun i j => .bl (decide (j ≤ i))) := opB0 fun _ _ _ _ _ _ _ q => ge_int q
theorem op_in_str : OpR X (compareOp .In) (fun x y H Q => ∃ i j, x = .str i ∧ y = .str j ∧ Q (.bl (!(Builtin.Str.occurrences j i 0 j.length 1).isEmpty)) H) := by
 intro pins s σ H x y v u Q I rx ry h
 obtain ⟨i, j, rfl, rfl, q⟩ := h
 obtain ⟨t, rfl⟩ := rx
 obtain ⟨t', rfl⟩ := ry
 exact in_str (fin_bl I q rfl)
theorem OpR.or {f : Value → Value → Sem Value} {r r' : R2} (h : OpR X f r) (h' : OpR X f r') : OpR X f (fun x y H Q => r x y H Q ∨ r' x y H Q) := by
 intro pins s σ H x y v u Q I rx ry q
 rcases q with q | q
 ·exact h pins s σ H x y v u Q I rx ry q
 ·exact h' pins s σ H x y v u Q I rx ry q
theorem nomark (b : Expr) {op : CmpOp} (h : op ≠ .In := by decide) (h2 : op ≠ .NotIn := by decide) : behindInMarks op b = false := by
 have e1 : (op == CmpOp.In) = false := by cases op <;> first | rfl | exact absurd rfl h
 have e2 : (op == CmpOp.NotIn) = false := by cases op <;> first | rfl | exact absurd rfl h2
 cases b <;> simp [behindInMarks, e1, e2]
theorem pe_cmpR {op : CmpOp} {r : R2} (ho : OpR X (compareOp op) r) (ha : PE X a ta) (hb : PE X b tb) (hm : behindInMarks op b = false) : PE X (.Compare a [op] [b] pos) (tOp r ta tb) := by
 intro pins s σ H Q I h
 exact wpAny_Compare1 (binT ha hb I h fun v u s2 x y H2 I2 rx ry q => ho pins s2 σ H2 x y v u Q I2 rx ry q) hm
noncomputable def tTest (t : TE) : TT := fun σ H Q => t σ H fun x H' => ∃ k, x = .bl k ∧ Q k H'
theorem pt_cmpR {op : CmpOp} {r : R2} (ho : OpR X (compareOp op) r) (ha : PE X a ta) (hb : PE X b tb) (hm : behindInMarks op b = false) : PT X (.Compare a [op] [b] pos) (tTest (tOp r ta tb)) := by
 intro pins s σ H Q I h
 refine wpAny_isTrue_Compare1 (thn (ha pins s σ H _ I h) fun v s1 ⟨x, H1, I1, r1, q1⟩ => thn (hb pins s1 σ H1 _ I1 q1) fun u s2 ⟨y, H2, I2, r2, q2⟩ =>
  thn (ho pins s2 σ H2 x y v u _ I2 r1 r2 q2) fun c s3 ⟨z, H3, I3, r3, k, e, q3⟩ => ?_) hm
 subst e
 cases r3
 exact wpAny_truthy_bool ⟨H3, I3, q3⟩
theorem line63 : (sizeLine : Nat) < 2 ^ 63 := by rw [sizeLine_eq]; decide
theorem op_add_str : OpR X (binaryOp .Add) (fun x y H Q => ∃ i j, x = .str i ∧ y = .str j ∧ i.length + j.length ≤ sizeLine ∧ Q (.str (i ++ j)) H) := by
 intro pins s σ H x y v u Q I rx ry h
 obtain ⟨i, j, rfl, rfl, hz, q⟩ := h
 obtain ⟨t, rfl⟩ := rx
 obtain ⟨t', rfl⟩ := ry
 exact add_str (fun t' tk => ⟨.str (i ++ j), H, I.tok _, ⟨_, rfl⟩, q⟩) hz
theorem vals1 {x : V} {us : List Value} (r : Vals [x] us) : ∃ u, us = [u] ∧ RelV x u := by
 cases r with
 | cons r1 r2 => cases r2; exact ⟨_, rfl, r1⟩
theorem vals2 {x y : V} {us : List Value} (r : Vals [x, y] us) : ∃ u w', us = [u, w'] ∧ RelV x u ∧ RelV y w' := by
 cases r with
 | cons r1 r2 =>
  cases r2 with
  | cons r3 r4 => cases r4; exact ⟨_, _, rfl, r1, r3⟩
theorem call_min2 (hc : X.calm = true) : CallR X (.builtin "min") (fun xs H Q => ∃ i j, xs = [.int i, .int j] ∧ Q (.int (if j < i then j else i)) H) := by
 intro pins s σ H xs us Q I r h
 obtain ⟨i, j, rfl, q⟩ := h
 obtain ⟨u, w', rfl, ⟨t, rfl⟩, ⟨t', rfl⟩⟩ := vals2 r
 refine min_two_ints (I.ok.hd hc) fun h' tk k => ⟨_, H, I.kept k, ?_, q⟩
 by_cases hj : j < i
 ·rw [if_pos hj, if_pos hj]; exact ⟨_, rfl⟩
 ·rw [if_neg hj, if_neg hj]; exact ⟨_, rfl⟩
theorem call_str_int : CallR X (.type "str") (fun xs H Q => ∃ i, xs = [.int i] ∧ i.natAbs.log2 < 1920 ∧ Q (.str (toString i)) H) := by
 intro pins s σ H xs us Q I r h
 obtain ⟨i, rfl, hz, q⟩ := h
 obtain ⟨u, rfl, t, rfl⟩ := vals1 r
 exact PySem.P.str_of_int hz ⟨.str _, H, I.tok _, ⟨_, rfl⟩, q⟩
end
end L2
namespace L2
open PySem PySem.Spec PyProof.Rows
section
variable {prog : Program} {w : World} {A : Around} {E : Value → Shared → Prop} {s : Shared} {K : PySem.W.Frag} {x dx C f : Addr} {mA : Str → Option Value} {name : Str} {v : Value}
end
section
variable {P : Program} {w : World} {H H' : Hp} {h h' : Heap} {a C dx : Addr} {fs fs' : List (Str × V)}
end
section
variable {X : Cx} {pins : List (Addr × Obj)} {σ : St} {H : Hp} {s : Shared} {a C dx : Addr} {fs : List (Str × V)} {f : Str} {v : V} {A : Around} {E : Value → Shared → Prop}
theorem Inv.made (I : Inv X pins σ H s) : Inv X pins σ (upd (upd H s.heap.objs.size (.own (s.heap.objs.size + 1))) (s.heap.objs.size + 1) (.ins C s.heap.objs.size []))
  { s with heap := (s.heap.push PySem.W.emptyDict).push (PySem.W.instObj C s.heap.objs.size) } := by
 have e1 : (s.heap.push PySem.W.emptyDict).get? s.heap.objs.size = some PySem.W.emptyDict := Heap.get?_push_size s.heap rfl
 have e2 : ((s.heap.push PySem.W.emptyDict).push (PySem.W.instObj C s.heap.objs.size)).get? (s.heap.objs.size + 1) = some (PySem.W.instObj C s.heap.objs.size) := by
  have := Heap.get?_push_size (s.heap.push PySem.W.emptyDict) (o := PySem.W.instObj C s.heap.objs.size) rfl
  rwa [Heap.size_push] at this
 have e3 : (s.heap.push PySem.W.emptyDict).Ns s.heap.objs.size (fun _ => none) := ⟨PySem.W.emptyDict, #[], _, e1, rfl, (fun e he => absurd he (by simp)), fun _ => rfl⟩
 have I1 := I.laid (a := s.heap.objs.size) (o := .own (s.heap.objs.size + 1)) (h' := s.heap.push PySem.W.emptyDict) (t' := s.toks) (fun b u q => Heap.get?_push_of_some _ q) (Nat.le_refl _) ⟨_, e1⟩
 refine I1.laid (a := s.heap.objs.size + 1) (o := .ins C s.heap.objs.size []) (t' := s.toks) (fun b u q => Heap.get?_push_of_some _ q) (Nat.le_of_eq (Heap.size_push _ _)) ?_
 have ne : s.heap.objs.size ≠ s.heap.objs.size + 1 := Nat.ne_of_lt (Nat.lt_succ_self _)
 refine ⟨by rw [upd_ne ne, upd_same], Nat.zero_le _, ne, e2, fun _ => none, (Heap.Ns1.of_empty e3).at fun o q => Heap.get?_push_of_some _ q, fun _ => True.intro, fun y hy => absurd rfl hy⟩
end
section
variable {X : Cx} {o e value : Expr} {f : Str} {pos pos' tpos : Pos} {ta tv : TE}
end
section
variable {X : Cx} {pins : List (Addr × Obj)} {σ : St} {H : Hp} {s : Shared} {A : Around} {E : Value → Shared → Prop} {Q : Value → Shared → Prop} {c : Value} {b : Bool}
end
end L2
namespace L2
open PySem PySem.Spec PyProof.Rows
structure Room (k : Nat) (A : Around) : Prop where
 hd : A.handled = none
 dp : A.depth + 3 * k + 5 < recursionLimit
 un : A.units + 16 * k + 200 < cLine
theorem Room.mono {j k : Nat} {A : Around} (r : Room k A) (h : j ≤ k) : Room j A := ⟨r.hd, by have := r.dp; lia, by have := r.un; lia⟩
theorem Room.deeper {k : Nat} {A : Around} (r : Room (k + 1) A) (env : Env) : Room k (A.deeper env) :=
 ⟨r.hd, by have := r.dp; show A.depth + 1 + 3 * k + 5 < _; lia, by have := r.un; show A.units + 3 + 16 * k + 200 < _; lia⟩
theorem Room.in1 {k : Nat} {A : Around} (r : Room (k + 1) A) : Room k A.in1 :=
 ⟨r.hd, by have := r.dp; show A.depth + 3 * k + 5 < _; lia, by have := r.un; show A.units + 1 + 16 * k + 200 < _; lia⟩
theorem Room.depth {k : Nat} {A : Around} (r : Room k A) : A.depth < recursionLimit := by have := r.dp; lia
theorem Room.units {k : Nat} {A : Around} (r : Room k A) : A.units + 64 < cLine := by have := r.un; lia
noncomputable def tNil : TA := fun _ H Q => Q [] H
noncomputable def tCons (ta : TE) (tr : TA) : TA := fun σ H Q => ta σ H fun x H1 => tr σ H1 fun xs H2 => Q (x :: xs) H2
section
variable {X : Cx} {e : Expr} {es : List Expr} {te : TE} {t : TA} {pos : Pos}
theorem pa_nil : PA X [] tNil := fun _ _ _ _ H Q I h => Calls.spliced_nil ⟨[], H, I, .nil, h⟩
theorem pa_cons (ha : PE X e te) (hr : PA X es t) (hs : starEach (e :: es) X.env = (false, eval e X.env) :: starEach es X.env := by rfl) : PA X (e :: es) (tCons te t) := by
 intro pos pins s σ H Q I h
 rw [hs]
 show wpAny _ _ (spliced ((false, eval e X.env) :: backTo pos (starEach es X.env))) _ _ s
 refine Calls.spliced_cons (thn (ha pins s σ H _ I h) fun u s1 hX11_ => ?_)
 obtain ⟨x, H1, I1, r1, q1⟩ := hX11_
 exact thn (hr pos pins s1 σ H1 _ I1 q1) fun us s2 ⟨xs, H2, I2, r2, q2⟩ => ⟨x :: xs, H2, I2, .cons r1 r2, q2⟩
noncomputable def tTup (t : TA) : TE := fun σ H Q => t σ H fun xs H1 => xs.length ≤ sizeLine ∧ ∀ p, H1 p = none → Q (.ref p) (upd H1 p (.tup xs))
noncomputable def tLst (t : TA) : TE := fun σ H Q => t σ H fun xs H1 => xs.length ≤ sizeLine ∧ ∀ p, H1 p = none → Q (.ref p) (upd H1 p (.lst xs))
theorem pe_tup {x1} (h : PA X es t) : PE X (.Tuple es x1 pos) (tTup t) := by
 intro pins s σ H Q I hq
 refine wpAny_Tuple_spliced (thn (h pos pins s σ H _ I hq) fun us s1 ⟨xs, H1, I1, r, z, q⟩ => ⟨by rw [← r.length]; exact z, ?_⟩)
 have hf : H1 s1.heap.objs.size = none := I1.hok.fresh (Nat.le_refl _)
 refine ⟨.ref s1.heap.objs.size, upd H1 s1.heap.objs.size (.tup xs), I1.laid (t' := s1.toks) (fun b u e => Heap.get?_push_of_some _ e) (Nat.le_refl _) ?_, rfl, q _ hf⟩
 exact ⟨z, us, r, ⟨_, Heap.get?_push_size _ rfl, rfl, _, rfl⟩⟩
theorem pe_lst (h : PA X es t) : PE X (.List es pos) (tLst t) := by
 intro pins s σ H Q I hq
 refine wpAny_List_spliced (thn (h pos pins s σ H _ I hq) fun us s1 ⟨xs, H1, I1, r, z, q⟩ => ⟨by rw [← r.length]; exact z, ?_⟩)
 have hf : H1 s1.heap.objs.size = none := I1.hok.fresh (Nat.le_refl _)
 refine ⟨.ref s1.heap.objs.size, upd H1 s1.heap.objs.size (.lst xs), I1.laid (t' := s1.toks) (fun b u e => Heap.get?_push_of_some _ e) (Nat.le_refl _) ?_, rfl, q _ hf⟩
 exact ⟨z, us, 0, r, Heap.get?_push_size _ rfl⟩
end
noncomputable abbrev Sp := List V → Hp → VK → XK → Prop
noncomputable abbrev CXT := List Env → Hp → Shared → XK → Value → Shared → Prop
structure Env0 (P : Program) (w : World) (K : PySem.W.Frag) (mg : Str → Option Value) (base : Heap) (A : Around) (outer : List Env) (s : Shared) (H : Hp) : Prop where
 frames : A.frames = some outer
 mod : Mod K mg base
 bs : ∀ b o, base.get? b = some o → s.heap.get? b = some o ∧ H b = none
 bsz : base.objs.size ≤ s.heap.objs.size
 funs : s.heap.FunFrames base outer
 frf : ∀ b ∈ frs outer, H b = none
 hok : HOk P w H s.heap
 bare : AllBare s.gens
noncomputable def CE (outer : List Env) (P : Program) (w : World) (H : Hp) (s : Shared) (Q : VK) (u : Value) (s' : Shared) : Prop :=
 ∃ v H', s'.os = s.os ∧ AllBare s'.gens ∧ Un (frs outer) [] H H' s.heap s'.heap ∧ HOk P w H' s'.heap ∧ RelV v u ∧ Q v H'
noncomputable def CR (CX : CXT) (outer : List Env) (P : Program) (w : World) (H : Hp) (s : Shared) (Q : VK) (E : XK) (r : Result) (s' : Shared) : Prop :=
 match r with
 | .ok (.ret u) => CE outer P w H s Q u s'
 | .ok _ => False
 | .error e => CX outer H s E e s'
structure FnOk (P : Program) (w : World) (K : PySem.W.Frag) (mg : Str → Option Value) (base : Heap) (CX : CXT) (k : Nat) (f : Addr) (fd : FuncData) (ps : List Str) (sp : Sp) : Prop where
 len : ∀ vs H Q E, sp vs H Q E → vs.length = ps.length
 run : ∀ (A : Around) (outer : List Env) (s : Shared) (H : Hp) (args : Args) (us : List Value) (vs : List V) (Q : VK) (E : XK), Room k A → Env0 P w K mg base A outer s H → BindsTo s fd args (ps.zip us) → Vals vs us → sp vs H Q E →
  codeAny (model P w) A (.call (.ref f) args) (CR CX outer P w H s Q E) s
theorem FnOk.mono {P : Program} {w : World} {K : PySem.W.Frag} {mg : Str → Option Value} {base : Heap} {CX : CXT} {j k : Nat} {f : Addr} {fd : FuncData} {ps : List Str} {sp : Sp} (F : FnOk P w K mg base CX j f fd ps sp) (h : j ≤ k) :
  FnOk P w K mg base CX k f fd ps sp := ⟨F.len, fun A outer s H args us vs Q E hr => F.run A outer s H args us vs Q E (hr.mono h)⟩
theorem Env0.in1 {P : Program} {w : World} {K : PySem.W.Frag} {mg : Str → Option Value} {base : Heap} {A : Around} {outer : List Env} {s : Shared} {H : Hp} (e : Env0 P w K mg base A outer s H) :
  Env0 P w K mg base A.in1 outer s H := ⟨e.frames, e.mod, e.bs, e.bsz, e.funs, e.frf, e.hok, e.bare⟩
section
variable {X : Cx} {pins : List (Addr × Obj)} {σ : St} {H : Hp} {s s' : Shared}
theorem Inv.env0 (I : Inv X pins σ H s) : Env0 X.prog X.w X.K X.mg X.base X.A X.stack s H :=
 ⟨I.ok.frames, I.ok.mod, I.bs, Nat.le_trans I.ok.bsz I.sz, I.stack, I.stkFree, I.hok, I.bare⟩
theorem Inv.after {Q : VK} {u : Value} (I : Inv X pins σ H s) (h : CE X.stack X.prog X.w H s Q u s') : EP X pins σ Q u s' := by
 obtain ⟨v, H', os, bare, un, hok, r, q⟩ := h
 obtain ⟨hh, g, d, t, os'⟩ := s'
 obtain rfl : os' = s.os := os
 exact ⟨v, H', I.call (h' := hh) (g' := g) (d' := d) (t' := t) (ch := []) un hok bare (fun b z => absurd z (by simp)), r, q⟩
end
noncomputable def tCall (sp : Sp) (dvs : List V) (E : XK) (t : TA) : TE := fun σ H Q => t σ H fun vs H1 => sp (vs ++ dvs) H1 Q E
noncomputable def Binds (K : PySem.W.Frag) (fd : FuncData) (ps : List Str) (ds : List Value) : Prop :=
 ∀ (s : Shared) (us : List Value), K.In s.heap → (us ++ ds).length = ps.length → BindsTo s fd ⟨us, []⟩ (ps.zip (us ++ ds))
theorem Binds.all {K : PySem.W.Frag} {fd : FuncData} {ps : List Str} (h : ∀ us : List Value, us.length = ps.length → bindArgs fd ⟨us, []⟩ = pure (ps.zip us)) : Binds K fd ps [] := fun s us _ hl => by
 rw [List.append_nil] at hl ⊢
 exact .of_eq (h us hl)
noncomputable def Passes (CX : CXT) (X : Cx) (E : XK) : Prop := ∀ (pins : List (Addr × Obj)) (σ : St) (H : Hp) (s : Shared) (e : Value) (s' : Shared), Inv X pins σ H s → CX X.stack H s E e s' → X.xe e s'
section
variable {X : Cx} {CX : CXT} {k : Nat} {f C : Addr} {fd : FuncData} {ps : List Str} {sp : Sp} {dvs : List V} {ds : List Value} {E : XK} {x m : Str} {p pos apos : Pos} {e o : Expr} {es : List Expr} {ta : TE} {t : TA}
theorem run_fn {pins : List (Addr × Obj)} {σ : St} {H : Hp} {s : Shared} {Q : VK} {us : List Value} {vs : List V} (F : FnOk X.prog X.w X.K X.mg X.base CX k f fd ps sp) (hr : Room k X.A) (hb : Binds X.K fd ps ds) (hd : Vals dvs ds) (hx : Passes CX X E)
  (I : Inv X pins σ H s) (r : Vals vs us) (h : sp (vs ++ dvs) H Q E) : wpAny (model X.prog X.w) X.A (call (.ref f) us) (EP X pins σ Q) X.xe s := by
 have r2 : Vals (vs ++ dvs) (us ++ ds) := r.append hd
 have hl : (us ++ ds).length = ps.length := by rw [← r2.length]; exact F.len _ _ _ _ h
 refine wpAny_call (codeAny_mono (F.run X.A X.stack s H ⟨us, []⟩ (us ++ ds) (vs ++ dvs) Q E hr I.env0 (hb s us I.kIn hl) r2 h) fun r s' hq => ?_)
 cases r with
 | error e => exact hx pins σ H s e s' I hq
 | ok fl =>
  cases fl with
  | ret u => exact I.after hq
  | next => exact False.elim hq
  | brk => exact False.elim hq
  | cont => exact False.elim hq
theorem pe_call (F : FnOk X.prog X.w X.K X.mg X.base CX k f fd ps sp) (hr : Room k X.A) (hg : Gl X x) (hm : X.mg x = some (.ref f)) (hk : PySem.W.keepIn X.K (.ref f) = true) (hb : Binds X.K fd ps ds) (hd : Vals dvs ds) (hx : Passes CX X E)
  (ha : PA X (e :: es) t) (hdb : (x == ("__debug__" : Str)) = false := by decide) (he : starEach (e :: es) X.env = (false, eval e X.env) :: starEach es X.env := by rfl) (hpl : (backTo pos (starEach es X.env)).any (·.1) = false := by rfl) :
  PE X (.Call (.Name x p) (e :: es) [] pos) (tCall sp dvs E t) := by
 intro pins s σ H Q I h
 refine wpAny_Call_Name_kw (ld_glob I hg hm ?_ hdb)
 refine PySem.W.callWith_K (h₀ := X.base) I.ok.mod.kin hk (thn (ha pos pins s σ H _ I h) fun us s1 ⟨vs, H1, I1, r, q⟩ => ⟨I1.kIn, ?_⟩) he hpl
 exact run_fn F hr hb hd hx I1 r q
end
section
variable {X : Cx} {CX : CXT} {k : Nat} {f C : Addr} {fd : FuncData} {ps ks : List Str} {sp : Sp} {E : XK} {x m : Str} {p pos apos kpos : Pos} {e o : Expr} {es : List Expr} {kws : List Keyword} {te ta : TE} {t tk : TA} {nm : Option Str}
variable {g : List Value → List Value → List Value} {gV : List V → List V → List V}
end
structure FnScope (N P : List Str) (sc : Scope) : Prop where
 kind : sc.kind = .function
 co : sc.isCoroutine = false
 gen : sc.isGenerator = false
 nd : N.Nodup
 pre : N.take P.length = P
 par : ∀ x ∈ P, sc.names.lookup x = some .local ∨ sc.names.lookup x = some .cell
 nofree : ∀ y ∈ sc.names, y.2 ≠ .free
theorem bindL_out {kindOf : Str → Option NameKind} {x : Str} : ∀ {binds : List (Str × Value)} {m : Str → Option Value}, (∀ v, (x, v) ∉ binds) → bindL kindOf binds m x = m x
 | [], _, _ => rfl
 | (n, v) :: r, m, h => by
  unfold bindL
  rw [bindL_out fun w hw => h w (List.mem_cons_of_mem _ hw)]
  split
  ·have : x ≠ n := by rintro rfl; exact h v List.mem_cons_self
   simp [this]
  ·rfl
theorem bindC_out {kindOf : Str → Option NameKind} {x : Str} : ∀ {binds : List (Str × Value)} {m : Str → Option Value}, (∀ v, (x, v) ∉ binds) → bindC kindOf binds m x = m x
 | [], _, _ => rfl
 | (n, v) :: r, m, h => by
  unfold bindC
  rw [bindC_out fun w hw => h w (List.mem_cons_of_mem _ hw)]
  split
  ·rfl
  ·have : x ≠ n := by rintro rfl; exact h v List.mem_cons_self
   simp [this]
theorem bindL_get {kindOf : Str → Option NameKind} {x : Str} {v : Value} : ∀ {P : List Str} {vs : List Value} {i : Nat} {m : Str → Option Value}, P.Nodup → P[i]? = some x → vs[i]? = some v → kindOf x = some .local →
  bindL kindOf (P.zip vs) m x = some v
 | [], _, _, _, _, h, _, _ => by simp at h
 | _ :: _, [], _, _, _, _, h, _ => by simp at h
 | p :: P, w :: vs, 0, m, nd, h1, h2, hk => by
  simp at h1 h2; subst h1; subst h2
  show bindL kindOf ((p, w) :: P.zip vs) m p = _
  unfold bindL
  rw [bindL_out fun v hv => (List.nodup_cons.mp nd).1 (List.of_mem_zip hv).1, if_pos hk]
  simp
 | p :: P, w :: vs, i + 1, m, nd, h1, h2, hk => by
  show bindL kindOf ((p, w) :: P.zip vs) m x = _
  unfold bindL
  exact bindL_get (i := i) (List.nodup_cons.mp nd).2 (by simpa using h1) (by simpa using h2) hk
theorem bindC_get {kindOf : Str → Option NameKind} {x : Str} {v : Value} : ∀ {P : List Str} {vs : List Value} {i : Nat} {m : Str → Option Value}, P.Nodup → P[i]? = some x → vs[i]? = some v → kindOf x ≠ some .local →
  bindC kindOf (P.zip vs) m x = some v
 | [], _, _, _, _, h, _, _ => by simp at h
 | _ :: _, [], _, _, _, _, h, _ => by simp at h
 | p :: P, w :: vs, 0, m, nd, h1, h2, hk => by
  simp at h1 h2; subst h1; subst h2
  show bindC kindOf ((p, w) :: P.zip vs) m p = _
  unfold bindC
  rw [bindC_out fun v hv => (List.nodup_cons.mp nd).1 (List.of_mem_zip hv).1, if_neg hk]
  simp
 | p :: P, w :: vs, i + 1, m, nd, h1, h2, hk => by
  show bindC kindOf ((p, w) :: P.zip vs) m x = _
  unfold bindC
  exact bindC_get (i := i) (List.nodup_cons.mp nd).2 (by simpa using h1) (by simpa using h2) hk
noncomputable def start (N : List Str) (vs : List V) : St := vs.map some ++ List.replicate (N.length - vs.length) none
noncomputable def cxOf (CX : CXT) (P : Program) (w : World) (K : PySem.W.Frag) (mg : Str → Option Value) (base : Heap) (N : List Str) (qual : Str) (scope : Scope) (f : Addr) (cd : Value) (A : Around) (outer : List Env) (s : Shared) (H : Hp) (E : XK) : Cx where
 prog := P
 w := w
 K := K
 mg := mg
 base := base
 A := A.deeper (envOfC qual scope s.heap.objs.size f cd)
 N := N
 s₀ := s
 H₀ := H
 env := envOfC qual scope s.heap.objs.size f cd
 outer := outer
 stack := envOfC qual scope s.heap.objs.size f cd :: outer
 ex := []
 calm := true
 fn := fun _ => true
 pn := []
 xe := fun e s' => wpAny (model P w) (A.deeper (envOfC qual scope s.heap.objs.size f cd)) (leaving (envOfC qual scope s.heap.objs.size f cd) e) (fun _ s'' => CX outer H s E e s'') (fun e' s'' => CX outer H s E e' s'') s'
theorem cell_has {sc : Scope} {n : Nat} {x : Str} (h : sc.names.lookup x = some .cell) : ∃ c, (cellsFrom n sc.names []).lookup x = some c := by
 have q := PySem.W.cellsFrom_some sc.names n [] (.inl h)
 exact Option.isSome_iff_exists.mp q
theorem inv_start {CX : CXT} {P : Program} {w : World} {K : PySem.W.Frag} {mg : Str → Option Value} {base : Heap} {N ps : List Str} {qual : Str} {scope : Scope} {f : Addr} {cd : Value} {A : Around} {outer : List Env} {s s1 : Shared} {H : Hp} {E : XK} {us : List Value} {vs : List V}
  (S : FnScope N ps scope) (hd : A.handled = none) (e0 : Env0 P w K mg base A outer s H) (hl : vs.length = ps.length) (r : Vals vs us)
  (x : InCallC s s.heap.objs.size (bindL (envOfC qual scope s.heap.objs.size f cd).kindOf (ps.zip us) fun _ => none) (cellsFrom (s.heap.objs.size + 1) scope.names []) (bindC (envOfC qual scope s.heap.objs.size f cd).kindOf (ps.zip us) fun _ => none) s1) :
  Inv (cxOf CX P w K mg base N qual scope f cd A outer s H E) [] (start N vs) H s1 := by
 have hpl : ps.length ≤ N.length := by have := congrArg List.length S.pre; rw [List.length_take] at this; lia
 obtain ⟨h1, tk, rfl, hk⟩ := x.done
 have noA : ∀ b : Addr, b ∉ (cxOf CX P w K mg base N qual scope f cd A outer s H E).ex := fun b z => absurd (show b ∈ ([] : List Addr) from z) (by simp)
 refine ⟨⟨e0.mod, S.kind, rfl, rfl, Nat.le_refl _, fun y z c h1 h2 => ?_, fun y hy => ?_, fun y c _ h => ?_, fun _ => hd, Around.frames_deeper e0.frames, .inr ⟨rfl, rfl⟩, fun b z => absurd z (noA b), e0.bs, e0.bsz, fun b _ _ => noA b, fun b z => absurd z (noA b), e0.funs, e0.frf⟩,
  rfl, e0.bare, Un.kept hk, ⟨_, x.toInCall.ns, fun i y v h1 h2 h3 => ?_⟩, fun y c h => ⟨_, x.cell y c h⟩, e0.hok.fresh (Nat.le_refl _), fun y c h => ?_, fun p hp => absurd (show p ∈ ([] : List (Addr × Obj)) from hp) (by simp), e0.hok.kept hk, ?_⟩
 ·exact name_of_addr x.apart (PySem.mem_of_lookup h1) (PySem.mem_of_lookup h2)
 ·have hy : scope.names.lookup y = some .cell ∨ scope.names.lookup y = some .free := hy
  rcases hy with hy | hy
  ·exact cell_has hy
  ·exact absurd rfl (S.nofree _ (PySem.mem_of_lookup hy))
 ·exact Nat.le_of_lt (x.above y c (PySem.mem_of_lookup h))
 ·have hi : i < vs.length := by
   unfold start at h2
   by_cases hi : i < vs.length
   ·exact hi
   ·rw [List.getElem?_append_right (by simpa using hi)] at h2
    rw [List.getElem?_replicate] at h2
    split at h2 <;> cases h2
  have ha : vs[i]? = some v := by
   unfold start at h2
   rw [List.getElem?_append_left (by simpa using hi), List.getElem?_map] at h2
   cases e : vs[i]? with
   | none => rw [e] at h2; cases h2
   | some a => rw [e] at h2; cases h2; rfl
  obtain ⟨u, hu, rv⟩ := r.get ha
  have hp : ps[i]? = some y := by
   rw [← S.pre, List.getElem?_take_of_lt (by lia)]; exact h1
  have ndP : ps.Nodup := by rw [← S.pre]; exact S.nd.sublist (List.take_sublist _ _)
  refine ⟨u, rv, ?_⟩
  rcases S.par y (List.mem_of_getElem? hp) with k | k
  ·exact .inl ⟨k, bindL_get ndP hp hu k⟩
  ·obtain ⟨c, e⟩ := cell_has (n := s.heap.objs.size + 1) k
   refine .inr ⟨.inl k, c, e, ?_⟩
   have q := x.cell y c e
   rw [bindC_get ndP hp hu (by show scope.names.lookup y ≠ _; rw [k]; decide)] at q
   exact q
 ·exact e0.hok.fresh (Nat.le_of_lt (x.above y c (PySem.mem_of_lookup h)))
 ·unfold start
  show _ = N.length
  rw [List.length_append, List.length_map, List.length_replicate]
  lia
theorem fn_of {CX : CXT} {P : Program} {w : World} {K : PySem.W.Frag} {mg : Str → Option Value} {base : Heap} {k : Nat} {f : Addr} {name qual : Str} {params : Arguments} {body : List Stmt} {scope : Scope} {dV kV doc pm cdv ct oc : Value} {an od : Option Addr}
  {osl : Array (Option Value)} {N ps : List Str} {sp : Sp} (lk : K.lookup f = some ⟨oc, od, .func (PySem.W.fnOf name qual params body scope dV kV doc pm an cdv ct), osl⟩) (hcd : PySem.W.codeIn K cdv qual = true) (S : FnScope N ps scope)
  (len : ∀ vs H Q E, sp vs H Q E → vs.length = ps.length)
  (hbody : ∀ (A : Around) (outer : List Env) (s : Shared) (H : Hp) (vs : List V) (Q : VK) (E : XK), Room k (A.deeper (envOfC qual scope s.heap.objs.size f cdv)) → sp vs H Q E →
   ∃ t, PSs (cxOf CX P w K mg base N qual scope f cdv A outer s H E) body t ∧ t { nx := fun _ H' => Q .non H', rt := Q } (start N vs) H) :
  FnOk P w K mg base CX (k + 1) f (PySem.W.fnOf name qual params body scope dV kV doc pm an cdv ct) ps sp := by
 refine ⟨len, fun A outer s H args us vs Q E hr e0 hb r hsp => ?_⟩
 have hl := len _ _ _ _ hsp
 have KX : K.In s.heap := e0.mod.kin.keeps fun b o e => (e0.bs b o e).1
 have lim : s.heap.NoLimit := e0.mod.nolimit.keeps fun b o e => (e0.bs b o e).1
 have hkind : ∀ y ∈ ps.zip us, scope.names.lookup y.1 = some .local ∨ (scope.names.lookup y.1 = some .cell ∧ ((cellsFrom (s.heap.objs.size + 1) scope.names []).lookup y.1).isSome = true) := fun hX11_ hy => by
  obtain ⟨n, v⟩ := hX11_
  rcases S.par n (List.of_mem_zip hy).1 with q | q
  ·exact .inl q
  ·exact .inr ⟨q, PySem.W.cellsFrom_some _ _ _ (.inl q)⟩
 refine codeAny_call_function hr.depth (KX _ _ lk) rfl S.co S.gen rfl (PySem.W.codeRec_of KX hcd) (hb _ _ _ _ ?_)
 refine wpAny_newFunctionEnv_cells S.kind hkind fun env he s1 x => ?_
 subst he
 refine ⟨lim.keeps x.toInCall.keep, codeAny_func ?_⟩
 obtain ⟨t, ht, hq⟩ := hbody A outer s H vs Q E (hr.deeper _) hsp
 have I : Inv (cxOf CX P w K mg base N qual scope f cdv A outer s H E) [] (start N vs) H s1 := inv_start S hr.hd e0 hl r x
 refine wpAny_mono (ht [] s1 (start N vs) H _ I hq) (fun fl s' hs => ?_) fun e s' hs => hs
 have fin : ∀ {σ' : St} {H' : Hp} {v : V} {u : Value}, Inv (cxOf CX P w K mg base N qual scope f cdv A outer s H E) [] σ' H' s' → RelV v u → Q v H' → CE outer P w H s Q u s' :=
  fun {σ' H' v u} J rv q => ⟨v, H', J.os, J.bare, J.base, J.hok, rv, q⟩
 cases fl with
 | ret u =>
  obtain ⟨v, σ', H', J, rv, q⟩ := hs
  exact fin J rv q
 | next =>
  obtain ⟨σ', H', J, q⟩ := hs
  exact fin (v := V.non) (u := Value.none) J rfl q
 | brk =>
  obtain ⟨_, _, _, q⟩ := hs
  exact False.elim q
 | cont =>
  obtain ⟨_, _, _, q⟩ := hs
  exact False.elim q
end L2
namespace L2
open PySem PySem.Spec PyProof.Rows
section
variable {X : Cx} {x : Str} {p pos : Pos} {e : Expr} {es : List Expr} {t : TA} {id T : String} {r : List V → Hp → VK → Prop}
noncomputable def tCB (r : List V → Hp → VK → Prop) (t : TA) : TE := fun σ H Q => t σ H fun vs H1 => r vs H1 Q
theorem pe_callB (hc : CallR X (.builtin id) r) (hg : Gl X x) (hm : X.mg x = none) (hv : bootBuiltins x = some (.builtin id)) (ha : PA X (e :: es) t) (hn : x ≠ "__name__" := by decide) (hdb : (x == ("__debug__" : Str)) = false := by decide)
  (he : starEach (e :: es) X.env = (false, eval e X.env) :: starEach es X.env := by rfl) (hpl : (backTo pos (starEach es X.env)).any (·.1) = false := by rfl) : PE X (.Call (.Name x p) (e :: es) [] pos) (tCB r t) := by
 intro pins s σ H Q I h
 refine wpAny_Call_Name_kw (ld_blt I hg hm hv ?_ hn hdb)
 exact PyProof.Rows.callWith_builtin1 (thn (ha pos pins s σ H _ I h) fun us s1 ⟨vs, H1, I1, r1, q1⟩ => hc pins s1 σ H1 vs us Q I1 r1 q1) he hpl
theorem pe_callTy (hc : CallR X (.type T) r) (hg : Gl X x) (hm : X.mg x = none) (hv : bootBuiltins x = some (.type T)) (ha : PA X (e :: es) t) (hn : x ≠ "__name__" := by decide) (hdb : (x == ("__debug__" : Str)) = false := by decide)
  (he : starEach (e :: es) X.env = (false, eval e X.env) :: starEach es X.env := by rfl) (hpl : (backTo pos (starEach es X.env)).any (·.1) = false := by rfl) : PE X (.Call (.Name x p) (e :: es) [] pos) (tCB r t) := by
 intro pins s σ H Q I h
 refine wpAny_Call_Name_kw (ld_blt I hg hm hv ?_ hn hdb)
 exact PyProof.Rows.callWith_type1 (thn (ha pos pins s σ H _ I h) fun us s1 ⟨vs, H1, I1, r1, q1⟩ => hc pins s1 σ H1 vs us Q I1 r1 q1) he hpl
end
end L2
namespace HT
open PySem PyProof.Rows
section
open PySem.SeqAt
open PySem.AutoSeq1 (wpAny_loadPart')
open PySem.MeetsSeq PySem.MeetsSeq2 PySem.MeetsSeq3
end
section
variable {prog : Program} {w : World} {A : Around} {E : Value → Shared → Prop} {s : Shared}
theorem cat_tup {t b : Addr} {vs ws : List Value} {Q : Value → Shared → Prop} (ht : IsTup s.heap t vs.toArray) (hb : IsTup s.heap b ws.toArray) (hv : vs ≠ [])
  (h1 : ws = [] → Q (.ref t) s) (h2 : ws ≠ [] → Q (.ref s.heap.objs.size) { s with heap := s.heap.push { cls := .type "tuple", data := .seq (vs ++ ws).toArray } })
  (hsz : vs.length + ws.length ≤ sizeLine) : wpAny (model prog w) A (binaryOp .Add (.ref t) (.ref b)) Q E s := by
 obtain ⟨⟨cls, dd, data, sl⟩, ho, hc, n, hd⟩ := id ht
 obtain ⟨⟨cls2, dd2, data2, sl2⟩, ho2, hc2, n2, hd2⟩ := id hb
 simp only at hc hd hc2 hd2
 subst hc hd hc2 hd2
 have e : vs.toArray ++ ws.toArray = (vs ++ ws).toArray := by simp
 by_cases hw : ws = []
 ·exact concat_meets ⟨_, ho, rfl⟩ ⟨_, ho2, rfl⟩ noFill_tuple_add seq_tuple_add PySem.F.slot_tuple_add PySem.F.entry_tuple_add (PySem.F.args_tuple_add_2 _ _)
   (tuple_addW1 t b vs.toArray ws.toArray n n2 dd dd2 sl sl2 (by simpa using hv) (by simp [hw])) ⟨ho, ho2, h1 hw⟩
 ·refine concat_meets ⟨_, ho, rfl⟩ ⟨_, ho2, rfl⟩ noFill_tuple_add seq_tuple_add PySem.F.slot_tuple_add PySem.F.entry_tuple_add (PySem.F.args_tuple_add_2 _ _)
   (tuple_addW2 t b vs.toArray ws.toArray n n2 dd dd2 sl sl2 (by simpa using hv) (by simpa using hw) (by rw [List.size_toArray, List.size_toArray]; exact hsz)) ⟨ho, ho2, ?_⟩
  rw [e]
  exact h2 hw
end
end HT
namespace L2
open PySem PySem.Spec PyProof.Rows
noncomputable abbrev TO := St → Hp → (Option Int → Hp → Prop) → Prop
noncomputable def PO (X : Cx) (e : Option Expr) (t : TO) : Prop :=
 ∀ (pins : List (Addr × Obj)) (s : Shared) (σ : St) (H : Hp) (Q : Option Int → Hp → Prop), Inv X pins σ H s → t σ H Q →
  wpAny (model X.prog X.w) X.A (evalPart e X.env) (fun u s' => ∃ o H', Inv X pins σ H' s' ∧ IsPart u o ∧ Q o H') X.xe s
theorem intsAre_of {ns : List Int} : ∀ {us : List Value}, Vals (ns.map V.int) us → IntsAre us ns := by
 induction ns with
 | nil => intro us r; rw [List.map_nil] at r; cases r; exact .nil
 | cons n ns ih =>
  intro us r
  rw [List.map_cons] at r
  cases r with
  | cons r1 r2 =>
   obtain ⟨t, e⟩ := r1
   subst e
   exact .cons n t (ih r2)
section
variable {X : Cx} {e : Expr} {te : TE} {lo hi : Option Expr} {tl th : TO} {pos p2 : Pos}
noncomputable def rCatT (K : PySem.W.Frag) : R2 := fun x y H Q => ∃ a b xs ys, x = .ref a ∧ y = .ref b ∧ SqT K H a xs ∧ SqT K H b ys ∧ xs ≠ [] ∧ xs.length + ys.length ≤ sizeLine ∧
 (ys = [] → Q (.ref a) H) ∧ (ys ≠ [] → ∀ p, H p = none → Q (.ref p) (upd H p (.tup (xs ++ ys))))
theorem Vals.nil_iff {xs : List V} {us : List Value} (r : Vals xs us) : us = [] ↔ xs = [] := by
 cases r with
 | nil => simp
 | cons _ _ => simp
theorem op_catT : OpR X (binaryOp .Add) (rCatT X.K) := by
 intro pins s σ H x y v u Q I rx ry h
 obtain ⟨a, b, xs, ys, rfl, rfl, ha, hb, hx, hz, q1, q2⟩ := h
 cases rx
 cases ry
 obtain ⟨its, r1, p1, _⟩ := I.tuple ha
 obtain ⟨its2, r2, p2, _⟩ := I.tuple hb
 refine HT.cat_tup p1 p2 (fun z => hx (r1.nil_iff.mp z)) (fun z => ⟨.ref a, H, I, rfl, q1 (r2.nil_iff.mp z)⟩) (fun z => ?_) (by rw [← r1.length, ← r2.length]; exact hz)
 refine ⟨.ref s.heap.objs.size, _, I.laid (t' := s.toks) (o := .tup (xs ++ ys)) (fun b ob q => Heap.get?_push_of_some _ q) (Nat.le_refl _) ?_, rfl, q2 (fun w => z (r2.nil_iff.mpr w)) _ (I.hok.fresh (Nat.le_refl _))⟩
 exact ⟨by rw [List.length_append]; exact hz, _, r1.append r2, IsTup.new _ _⟩
end
end L2
namespace L2
open PySem PySem.Spec PyProof.Rows
noncomputable def ixN (n : Nat) (i : Int) : Option Nat := if 0 ≤ i then (if i < n then some i.toNat else none) else if -(n : Int) ≤ i then some (i + n).toNat else none
noncomputable def atI {α : Type} (xs : List α) (i : Int) : Option α := (ixN xs.length i).bind fun j => xs[j]?
theorem ixN_seq {n : Nat} {i : Int} {j : Nat} (h : ixN n i = some j) : seqIndex? i n = some j ∧ j < n ∧ -(n : Int) ≤ i ∧ i < n := by
 unfold ixN at h
 by_cases h0 : 0 ≤ i
 ·rw [if_pos h0] at h
  by_cases h1 : i < n
  ·rw [if_pos h1] at h
   have e : i.toNat = j := Option.some.inj h
   exact ⟨by rw [seqIndex_of h0 h1, e], by lia, by lia, h1⟩
  ·rw [if_neg h1] at h; cases h
 ·rw [if_neg h0] at h
  by_cases h1 : -(n : Int) ≤ i
  ·rw [if_pos h1] at h
   have e : (i + n).toNat = j := Option.some.inj h
   exact ⟨by rw [seqIndex_neg (by lia) h1, e], by lia, h1, by lia⟩
  ·rw [if_neg h1] at h; cases h
theorem atI_get {α : Type} {xs : List α} {i : Int} {v : α} (h : atI xs i = some v) : ∃ j, seqIndex? i xs.length = some j ∧ xs[j]? = some v ∧ j < xs.length ∧ -(xs.length : Int) ≤ i ∧ i < xs.length := by
 unfold atI at h
 cases e : ixN xs.length i with
 | none => rw [e] at h; cases h
 | some j =>
  rw [e] at h
  obtain ⟨h1, h2, h3, h4⟩ := ixN_seq e
  exact ⟨j, h1, h, h2, h3, h4⟩
noncomputable def PlainIx (b : Expr) : Prop := ∀ o i, subscripted b false o i = operate [o, i] (getItem o i)
noncomputable def IxR (X : Cx) (r : R2) : Prop :=
 ∀ (value slice : Expr) (pins : List (Addr × Obj)) (s : Shared) (σ : St) (H : Hp) (x y : V) (v u : Value) (Q : VK), Inv X pins σ H s → RelV x v → RelV y u → r x y H Q →
  subscripted slice false v u = operate [v, u] (getItem v u) → wpAny (model X.prog X.w) X.A (subscriptTail value slice v u) (EP X pins σ Q) X.xe s
noncomputable def MtR (X : Cx) (id : String) (r : V → List V → Hp → VK → Prop) : Prop :=
 ∀ (pins : List (Addr × Obj)) (s : Shared) (σ : St) (H : Hp) (x : V) (xs : List V) (v : Value) (us : List Value) (Q : VK), Inv X pins σ H s → RelV x v → Vals xs us → r x xs H Q →
  wpAny (model X.prog X.w) X.A (call (.builtin id) (v :: us)) (EP X pins σ Q) X.xe s
section
variable {X : Cx} {a b : Expr} {ta tb : TE} {pos : Pos}
theorem IxR.or {r r' : R2} (h : IxR X r) (h' : IxR X r') : IxR X (fun x y H Q => r x y H Q ∨ r' x y H Q) := by
 intro value slice pins s σ H x y v u Q I rx ry q hs
 rcases q with q | q
 ·exact h value slice pins s σ H x y v u Q I rx ry q hs
 ·exact h' value slice pins s σ H x y v u Q I rx ry q hs
theorem pe_ix {r : R2} (hr : IxR X r) (ha : PE X a ta) (hb : PE X b tb) (hs : PlainIx b) : PE X (.Subscript a b pos) (tOp r ta tb) := by
 intro pins s σ H Q I h
 exact Subscript_ (binT ha hb I h fun v u s2 x y H2 I2 rx ry q => hr a b pins s2 σ H2 x y v u Q I2 rx ry q (hs _ _))
noncomputable def rIxL (K : PySem.W.Frag) : R2 := fun x y H Q => ∃ p xs i v, x = .ref p ∧ y = .int i ∧ SqL K H p xs ∧ atI xs i = some v ∧ Q v H
noncomputable def rIxT (K : PySem.W.Frag) : R2 := fun x y H Q => ∃ p xs i v, x = .ref p ∧ y = .int i ∧ SqT K H p xs ∧ atI xs i = some v ∧ Q v H
noncomputable def rIxS : R2 := fun x y H Q => ∃ z i c, x = .str z ∧ y = .int i ∧ z.length ≤ sizeLine ∧ atI z.cps.toList i = some c ∧ Q (.str ⟨#[c]⟩) H
theorem ix_list : IxR X (rIxL X.K) := by
 intro value slice pins s σ H x y v u Q I rx ry h hs
 obtain ⟨p, xs, i, z, rfl, rfl, hq, he, q⟩ := h
 cases rx
 obtain ⟨t, rfl⟩ := ry
 obtain ⟨its, r, pl, hz⟩ := I.list hq
 obtain ⟨j, h1, h2, h3, h4, h5⟩ := atI_get he
 obtain ⟨w, ew, rw'⟩ := r.get h2
 have hl := r.length
 have hn := line63
 have fin : EP X pins σ Q w s := ⟨z, H, I, rw', q⟩
 by_cases h0 : 0 ≤ i
 ·have hj : i.toNat = j := by
   rw [seqIndex_of h0 h5] at h1
   exact Option.some.inj h1
  exact item_listR pl.isList h0 (by lia) (by rw [hj]; simpa using ew) fin hs
 ·have hj : (i + (its.toArray.size : Int)).toNat = j := by
   rw [seqIndex_neg (by lia) h4] at h1
   rw [List.size_toArray, ← hl]
   exact Option.some.inj h1
  exact subscriptTail_builtinR (x := w) pl.isList.typeIs slot_list_getitem.lookup
   (wpAny_getItem_list_neg (Q := fun r s' => r = w ∧ EP X pins σ Q r s') pl.isList (by lia) (by rw [List.size_toArray] <;> lia) (by lia) (by rw [hj]; simpa using ew) ⟨rfl, fin⟩) hs
theorem ix_tup : IxR X (rIxT X.K) := by
 intro value slice pins s σ H x y v u Q I rx ry h hs
 obtain ⟨p, xs, i, z, rfl, rfl, hq, he, q⟩ := h
 cases rx
 obtain ⟨t, rfl⟩ := ry
 obtain ⟨its, r, pl, hz⟩ := I.tuple hq
 obtain ⟨j, h1, h2, h3, h4, h5⟩ := atI_get he
 obtain ⟨w, ew, rw'⟩ := r.get h2
 have hl := r.length
 have hn := line63
 have fin : EP X pins σ Q w s := ⟨z, H, I, rw', q⟩
 exact subscriptTail_builtinR (x := w) pl.typeIs slot_tuple_getitem.lookup
  (getItem_tuple (j := j) (Q := fun r s' => r = w ∧ EP X pins σ Q r s') pl (by lia) (by lia) (by rw [List.size_toArray, ← hl]; exact h1) (by simpa using ew) ⟨rfl, fin⟩) hs
theorem ix_str : IxR X rIxS := by
 intro value slice pins s σ H x y v u Q I rx ry h hs
 obtain ⟨z, i, c, rfl, rfl, hz, he, q⟩ := h
 obtain ⟨t, rfl⟩ := rx
 obtain ⟨t', rfl⟩ := ry
 obtain ⟨j, h1, h2, h3, h4, h5⟩ := atI_get he
 have hl : z.cps.toList.length = z.length := by simp [Str.length]
 rw [hl] at h1 h4 h5
 have hn := line63
 exact tail_any (typeIs_str s z t) slot_str_getitem.lookup (getItem_str (c := c) (by
  have e1 : decide (i < -(2 ^ 63 : Int)) = false := decide_eq_false (by lia)
  have e2 : decide (i ≥ 2 ^ 63) = false := decide_eq_false (by lia)
  rw [e1, e2, Bool.or_false]) (by rw [h1]; simpa using h2) ⟨.str ⟨#[c]⟩, H, I.tok _, ⟨_, rfl⟩, q⟩) hs
noncomputable def rIx (K : PySem.W.Frag) : R2 := fun x y H Q => rIxL K x y H Q ∨ rIxT K x y H Q ∨ rIxS x y H Q
theorem ix_seq : IxR X (rIx X.K) := ix_list.or (ix_tup.or ix_str)
theorem mapSeq_set (its : List Value) (n j : Nat) (u : Value) : Obj.mapSeq (·.setIfInBounds j u) { cls := .type "list", data := .seq its.toArray n } = { cls := .type "list", data := .seq (its.set j u).toArray n } := by
 simp [Obj.mapSeq]
theorem Inv.lst {pins : List (Addr × Obj)} {σ : St} {H : Hp} {s : Shared} {p : Addr} {xs : List V} (I : Inv X pins σ H s) (h : H p = some (.lst xs)) :
  ∃ (its : List Value) (n : Nat), Vals xs its ∧ s.heap.get? p = some { cls := .type "list", data := .seq its.toArray n } ∧ xs.length ≤ sizeLine := by
 obtain ⟨z, its, n, r, e⟩ := I.hok p _ h
 exact ⟨its, n, r, e, z⟩
theorem Inv.lstUpd {pins : List (Addr × Obj)} {σ : St} {H : Hp} {s : Shared} {p : Addr} {xs ys : List V} {its its' : List Value} {n n' : Nat} {f : Obj → Obj} (I : Inv X pins σ H s) (h : H p = some (.lst xs))
  (ho : s.heap.get? p = some { cls := .type "list", data := .seq its.toArray n }) (hf : f { cls := .type "list", data := .seq its.toArray n } = { cls := .type "list", data := .seq its'.toArray n' }) (r : Vals ys its') (hz : ys.length ≤ sizeLine) (t : Nat) :
  Inv X pins σ (upd H p (.lst ys)) { s with heap := s.heap.update p f, toks := t } := by
 have e : (s.heap.update p f).get? p = some { cls := .type "list", data := .seq its'.toArray n' } := by
  rw [Heap.get?_update_self f ho (by rw [hf] <;> rfl), hf]
 refine I.write (x := p) (e := p) (by rw [h]; trivial) (.inl rfl) (fun b u hb q => (Heap.get?_update_other _ _ (Ne.symm hb)).trans q) ⟨_, e⟩ ?_
 exact ⟨hz, its', n', r, e⟩
noncomputable def rSetL : V → V → V → Hp → (Hp → Prop) → Prop := fun o i v H Q => ∃ p xs k j, o = .ref p ∧ i = .int k ∧ H p = some (.lst xs) ∧ ixN xs.length k = some j ∧ Q (upd H p (.lst (xs.set j v)))
theorem set_list : PSet X rSetL := by
 intro pins s σ H o i v ov iv u Q I ro ri rv h
 obtain ⟨p, xs, k, j, rfl, rfl, hp, hj, q⟩ := h
 cases ro
 obtain ⟨t, rfl⟩ := ri
 obtain ⟨its, n, r, ho, hz⟩ := I.lst hp
 obtain ⟨h1, h2, h3, h4⟩ := ixN_seq hj
 have hl := r.length
 have hn := line63
 have I' : Inv X pins σ (upd H p (.lst (xs.set j v))) { s with heap := s.heap.update p (Obj.mapSeq (·.setIfInBounds j u)) } :=
  I.lstUpd hp ho (mapSeq_set its n j u) (r.set rv j) (by rw [List.length_set]; exact hz) s.toks
 by_cases h0 : 0 ≤ k
 ·have hk : k.toNat = j := by
   rw [seqIndex_of h0 h4] at h1
   exact Option.some.inj h1
  exact PySem.W.ki_setAt ho h0 (by lia) (by rw [List.size_toArray, ← hl]; exact h4) (by rw [hk]; exact ⟨_, I', q⟩)
 ·have hk : (k + (its.toArray.size : Int)).toNat = j := by
   rw [seqIndex_neg (by lia) h3] at h1
   rw [List.size_toArray, ← hl]
   exact Option.some.inj h1
  exact PySem.W.ki_setBack ho (by lia) (by rw [List.size_toArray, ← hl]; exact h3) (by lia) (by rw [hk]; exact ⟨_, I', q⟩)
noncomputable def flatV : V → Bool
 | .non => true
 | .bl _ => true
 | .int _ => true
 | .str _ => true
 | _ => false
noncomputable def eqV : V → V → Bool
 | .non, .non => true
 | .bl a, .bl b => a == b
 | .bl a, .int b => (if a then 1 else 0) == b
 | .int a, .bl b => a == (if b then 1 else 0)
 | .int a, .int b => a == b
 | .str a, .str b => a == b
 | _, _ => false
theorem eqAt_V {A : Around} {s : Shared} {y x : V} {u v : Value} (ry : RelV y u) (rx : RelV x v) (fy : flatV y = true) (fx : flatV x = true) : SeqAt.EqAt A s u v (eqV y x) := by
 cases y with
 | non =>
  cases ry
  cases x with
  | non => cases rx; exact SeqAt.EqAt.same _
  | bl b => cases rx; exact SeqAt.EqAt.none_bool b
  | int b => obtain ⟨t, rfl⟩ := rx; exact SeqAt.EqAt.none_int b t
  | str b => obtain ⟨t, rfl⟩ := rx; exact SeqAt.EqAt.none_str b t
  | _ => exact absurd (show false = true from fx) Bool.false_ne_true
 | bl a =>
  cases ry
  cases x with
  | non => cases rx; exact SeqAt.EqAt.bool_none a
  | bl b => cases rx; exact SeqAt.EqAt.bool_bool a b
  | int b => obtain ⟨t, rfl⟩ := rx; exact SeqAt.EqAt.bool_int a b t
  | str b => obtain ⟨t, rfl⟩ := rx; exact SeqAt.EqAt.bool_str a b t
  | _ => exact absurd (show false = true from fx) Bool.false_ne_true
 | int a =>
  obtain ⟨t', rfl⟩ := ry
  cases x with
  | non => cases rx; exact SeqAt.EqAt.int_none a t'
  | bl b => cases rx; exact SeqAt.EqAt.int_bool a t' b
  | int b => obtain ⟨t, rfl⟩ := rx; exact SeqAt.EqAt.int_int a t' b t
  | str b => obtain ⟨t, rfl⟩ := rx; exact SeqAt.EqAt.int_str a t' b t
  | _ => exact absurd (show false = true from fx) Bool.false_ne_true
 | str a =>
  obtain ⟨t', rfl⟩ := ry
  cases x with
  | non => cases rx; exact SeqAt.EqAt.str_none a t'
  | bl b => cases rx; exact SeqAt.EqAt.str_bool a t' b
  | int b => obtain ⟨t, rfl⟩ := rx; exact SeqAt.EqAt.str_int a t' b t
  | str b => obtain ⟨t, rfl⟩ := rx; exact SeqAt.EqAt.str_str a t' b t
  | _ => exact absurd (show false = true from fx) Bool.false_ne_true
 | _ => exact absurd (show false = true from fy) Bool.false_ne_true
noncomputable def eqU (x : V) (u : Value) : Bool := match u with
 | .none => eqV .non x
 | .bool b => eqV (.bl b) x
 | .int i _ => eqV (.int i) x
 | .str z _ => eqV (.str z) x
 | _ => false
theorem eqU_of {x y : V} {u : Value} (r : RelV y u) (f : flatV y = true) : eqU x u = eqV y x := by
 cases y with
 | non => cases r; rfl
 | bl b => cases r; rfl
 | int i => obtain ⟨t, rfl⟩ := r; rfl
 | str z => obtain ⟨t, rfl⟩ := r; rfl
 | _ => exact absurd (show false = true from f) Bool.false_ne_true
theorem any_eqU {x : V} : ∀ {xs : List V} {us : List Value}, Vals xs us → xs.all flatV = true → us.any (eqU x) = xs.any fun y => eqV y x
 | _, _, .nil, _ => rfl
 | y :: xs, u :: us, .cons r t, f => by
  rw [List.all_cons, Bool.and_eq_true] at f
  rw [List.any_cons, List.any_cons, eqU_of r f.1, any_eqU t f.2]
theorem mem_eqAt {A : Around} {s : Shared} {x : V} {v : Value} (rx : RelV x v) (fx : flatV x = true) : ∀ {xs : List V} {us : List Value}, Vals xs us → xs.all flatV = true → ∀ u ∈ us, SeqAt.EqAt A s u v (eqU x u)
 | _, _, .nil, _ => fun u hu => by cases hu
 | y :: xs, u :: us, .cons r t, f => fun u' hu => by
  rw [List.all_cons, Bool.and_eq_true] at f
  rcases List.mem_cons.mp hu with rfl | hu
  ·rw [eqU_of r f.1]; exact eqAt_V r rx f.1 fx
  ·exact mem_eqAt rx fx t f.2 u' hu
noncomputable def inV (x : V) (xs : List V) : Bool := xs.any fun y => eqV y x
noncomputable def rIn (K : PySem.W.Frag) (neg : Bool) : R2 := fun x y H Q => ∃ p xs, y = .ref p ∧ (SqL K H p xs ∨ SqT K H p xs) ∧ flatV x = true ∧ xs.all flatV = true ∧ Q (.bl (if neg then !inV x xs else inV x xs)) H
theorem op_in_seq : OpR X (compareOp .In) (rIn X.K false) := by
 intro pins s σ H x y v u Q I rx ry h
 obtain ⟨p, xs, rfl, hq, fx, fs, q⟩ := h
 cases ry
 rcases hq with hq | hq
 ·obtain ⟨its, r, pl, hz⟩ := I.list hq
  refine SeqAt.in_listAt (eqU x) pl.isList (fun w hw => mem_eqAt rx fx r fs w (by simpa using hw)) ⟨.bl _, H, I, rfl, ?_⟩
  rw [show its.toArray.any (eqU x) = its.any (eqU x) by simp, any_eqU r fs]
  exact q
 ·obtain ⟨its, r, pl, hz⟩ := I.tuple hq
  refine SeqAt.in_tupleAt (eqU x) pl (fun w hw => mem_eqAt rx fx r fs w (by simpa using hw)) ⟨.bl _, H, I, rfl, ?_⟩
  rw [show its.toArray.any (eqU x) = its.any (eqU x) by simp, any_eqU r fs]
  exact q
theorem call_len_seq : CallR X (.builtin "len") (fun xs H Q => ∃ p ys, xs = [.ref p] ∧ (SqL X.K H p ys ∨ SqT X.K H p ys) ∧ Q (.int ys.length) H) := by
 intro pins s σ H xs us Q I r h
 obtain ⟨p, ys, rfl, hq, q⟩ := h
 obtain ⟨u, rfl, rx⟩ := vals1 r
 cases rx
 have hn := line63
 rcases hq with hq | hq
 ·obtain ⟨its, r', pl, hz⟩ := I.list hq
  have hlen := r'.length
  exact Calls.call_len_list pl.isList (by simp only [List.size_toArray] <;> lia) ⟨.int ys.length, H, I.tok _, ⟨s.toks + 1, by rw [List.size_toArray, hlen]⟩, q⟩
 ·obtain ⟨its, r', pl, hz⟩ := I.tuple hq
  have hlen := r'.length
  exact len_tuple pl (by simp only [List.size_toArray] <;> lia) ⟨.int ys.length, H, I.tok _, ⟨s.toks + 1, by rw [List.size_toArray, hlen]⟩, q⟩
theorem call_len_str : CallR X (.builtin "len") (fun xs H Q => ∃ z, xs = [.str z] ∧ z.length ≤ sizeLine ∧ Q (.int z.length) H) := by
 intro pins s σ H xs us Q I r h
 obtain ⟨z, rfl, hz, q⟩ := h
 obtain ⟨u, rfl, t, rfl⟩ := vals1 r
 have hn := line63
 exact len_str (by lia) ⟨.int z.length, H, I.tok _, ⟨_, rfl⟩, q⟩
theorem CallR.or {f : Value} {r r' : List V → Hp → VK → Prop} (h : CallR X f r) (h' : CallR X f r') : CallR X f (fun xs H Q => r xs H Q ∨ r' xs H Q) := by
 intro pins s σ H xs us Q I rs q
 rcases q with q | q
 ·exact h pins s σ H xs us Q I rs q
 ·exact h' pins s σ H xs us Q I rs q
theorem call_tuple_of : CallR X (.type "tuple") (fun xs H Q => ∃ p ys, xs = [.ref p] ∧ ((SqL X.K H p ys ∧ ∀ l, H l = none → Q (.ref l) (upd H l (.tup ys))) ∨ (SqT X.K H p ys ∧ Q (.ref p) H))) := by
 intro pins s σ H xs us Q I r h
 obtain ⟨p, ys, rfl, h⟩ := h
 obtain ⟨u, rfl, rx⟩ := vals1 r
 cases rx
 rcases h with ⟨hq, q⟩ | ⟨hq, q⟩
 ·obtain ⟨its, r', pl, hz⟩ := I.list hq
  have hlen := r'.length
  refine call_tuple_list pl.isList (fun h' kp => ?_) (by simp only [List.size_toArray] <;> lia)
  have I1 : Inv X pins σ H { s with heap := h' } := I.kept (t' := s.toks) kp
  have I2 : Inv X pins σ (upd H h'.objs.size (.tup ys)) { s with heap := h'.push { cls := .type "tuple", data := .seq its.toArray } } :=
   I1.laid (t' := s.toks) (fun b o e => Heap.get?_push_of_some _ e) (Nat.le_refl _) (show ObjOk X.prog X.w _ _ _ (.tup ys) from ⟨hz, its, r', IsTup.new _ _⟩)
  exact ⟨.ref h'.objs.size, _, I2, rfl, q _ (I1.hok.fresh (Nat.le_refl _))⟩
 ·obtain ⟨its, r', pl, hz⟩ := I.tuple hq
  exact call_tuple_same pl ⟨.ref p, H, I, rfl, q⟩
noncomputable def tyV (K : PySem.W.Frag) (T : String) (x : V) (H : Hp) : Prop := match x with
 | .str _ => T = "str"
 | .int _ => T = "int"
 | .ref p => (T = "list" ∧ ∃ xs, SqL K H p xs) ∨ (T = "tuple" ∧ ∃ o, K.lookup p = some o ∧ o.cls = .type "tuple" ∧ o.dict = none) ∨
   (T = "dict" ∧ ((∃ kvs, H p = some (.dK kvs)) ∨ ∃ kvs, H p = some (.dT kvs))) ∨ (T = "set" ∧ ∃ S n, H p = some (.set S n))
 | _ => False
theorem tyV_is {pins : List (Addr × Obj)} {σ : St} {H : Hp} {s : Shared} {T : String} {x : V} {v : Value} (I : Inv X pins σ H s) (r : RelV x v) (ty : tyV X.K T x H) :
  s.TypeIs v T ∧ ∀ a, v = .ref a → ∃ ob, s.heap.get? a = some ob ∧ ob.dict = none := by
 cases x with
 | str z =>
  obtain ⟨t, rfl⟩ := r
  cases (show T = "str" from ty)
  exact ⟨typeIs_str s z t, fun _ e => nomatch e⟩
 | int i =>
  obtain ⟨t, rfl⟩ := r
  cases (show T = "int" from ty)
  exact ⟨typeIs_int s i t, fun _ e => nomatch e⟩
 | ref p =>
  cases r
  rcases ty with ⟨rfl, xs, hq⟩ | ⟨rfl, o, hk, hc, hd⟩ | ⟨rfl, hk⟩ | ⟨rfl, S, n, hk⟩
  ·obtain ⟨its, _, pl, _⟩ := I.list hq
   refine ⟨pl.isList.typeIs, fun a e => ?_⟩
   cases e
   obtain ⟨o, n, e, c, hd, _⟩ := pl
   exact ⟨o, e, hd⟩
  ·refine ⟨⟨o, I.kIn p o hk, hc⟩, fun a e => ?_⟩
   cases e
   exact ⟨o, I.kIn _ o hk, hd⟩
  ·have z : ∃ o, s.heap.get? p = some o ∧ o.ExactDict := by
    rcases hk with ⟨kvs, hk⟩ | ⟨kvs, hk⟩
    ·obtain ⟨_, _, _, _, o, _, e, ex, _⟩ := I.hok p _ hk
     exact ⟨o, e, ex⟩
    ·obtain ⟨_, _, _, _, o, _, _, e, ex, _⟩ := I.hok p _ hk
     exact ⟨o, e, ex⟩
   obtain ⟨o, e, ex⟩ := z
   refine ⟨⟨o, e, ex.1⟩, fun a e2 => ?_⟩
   cases e2
   exact ⟨o, e, ex.2.1⟩
  ·obtain ⟨o, _, _, _, e, ex, _⟩ := I.hok p _ hk
   refine ⟨⟨o, e, ex.1⟩, fun a e2 => ?_⟩
   cases e2
   exact ⟨o, e, ex.2.1⟩
 | _ => exact False.elim ty
noncomputable def tBM (K : PySem.W.Frag) (T : String) (r : V → List V → Hp → VK → Prop) (to : TE) (t : TA) : TE := fun σ H Q => to σ H fun x H1 => tyV K T x H1 ∧ t σ H1 fun xs H2 => r x xs H2 Q
variable {o e : Expr} {es : List Expr} {to : TE} {t : TA} {name : Str} {apos cpos : Pos} {T id : String} {r : V → List V → Hp → VK → Prop}
theorem pe_bm (pa : PlainAttrs T) (slot : Slot T name id) (hty : typeOf (.builtin id) = pure (.type "method_descriptor")) (hm : MtR X id r) (ho : PE X o to) (ha : PA X (e :: es) t)
  (hbase : attributeBase o name X.env (eval o X.env) = eval o X.env := by rfl)
  (hfew : ((backTo cpos (starEach (e :: es) X.env)).all (fun x => !x.1) && (backToKw cpos (keywordEach [] X.env)).all (fun x => x.1.isSome)
   && decide ((e :: es).length + ([] : List Keyword).length + (if ([] : List Keyword).isEmpty then 0 else 1) < 30)) = true := by rfl)
  (hline : (apos.endLine == cpos.line) = true := by rfl) (hs : starEach (e :: es) X.env = (false, eval e X.env) :: starEach es X.env := by rfl) (hplain : (backTo cpos (starEach es X.env)).any (·.1) = false := by rfl) :
  PE X (.Call (.Attribute o name apos) (e :: es) [] cpos) (tBM X.K T r to t) := by
 intro pins s σ H Q I h
 refine wpAny_Call_method_late hbase hfew hline rfl (thn (ho pins s σ H _ I h) fun v s1 hX11_ => ?_)
 obtain ⟨x, H1, I1, r1, ty, q1⟩ := hX11_
 obtain ⟨h1, h2⟩ := tyV_is I1 r1 ty
 refine ⟨T, id, pa, slot, hty, h1, h2, ?_⟩
 have hA := ha cpos pins s1 σ H1 _ I1 q1
 rw [hs] at hA ⊢
 refine Calls.callWith_builtin (by show (false || (backTo cpos (starEach es X.env)).any (·.1)) = false; rw [hplain] <;> rfl) (Calls.evalArgs_plain ?_)
 exact thn hA fun us s2 ⟨vs, H2, I2, r2, q2⟩ => hm pins s2 σ H2 x vs v us Q I2 r1 r2 q2
/- xs.append(e), list.index on a module's tuple .. are MtR facts of 06m -/
end
end L2
namespace L2
open PySem PySem.Spec PyProof.Rows
noncomputable def MtM (X : Cx) (id : String) (r : V → List V → Hp → VK → Prop) : Prop :=
 ∀ (pins : List (Addr × Obj)) (s : Shared) (σ : St) (H : Hp) (x : V) (xs : List V) (v : Value) (us : List Value) (Q : VK), Inv X pins σ H s → RelV x v → Vals xs us → r x xs H Q →
  wpAny (model X.prog X.w) X.A (call (.builtin id) (v :: us)) (EP X pins σ Q) X.xe s
theorem Vals.one : ∀ {x : V} {us : List Value}, Vals [x] us → ∃ u, us = [u] ∧ RelV x u
 | _, _, .cons r .nil => ⟨_, rfl, r⟩
theorem Vals.eraseIdx : ∀ {xs : List V} {us : List Value} (i : Nat), Vals xs us → Vals (xs.eraseIdx i) (us.eraseIdx i)
 | _, _, _, .nil => .nil
 | _, _, 0, .cons _ t => t
 | _, _, i + 1, .cons r t => .cons r (Vals.eraseIdx i t)
theorem Vals.reverse {xs : List V} {us : List Value} (h : Vals xs us) : Vals xs.reverse us.reverse := by
 induction h with
 | nil => exact .nil
 | cons r t ih => rw [List.reverse_cons, List.reverse_cons]; exact Vals.append ih (.cons r .nil)
section
variable {X : Cx} {pins : List (Addr × Obj)} {σ : St} {H : Hp} {s : Shared} {l b : Addr} {xs ys zs : List V}
theorem Inv.lset {its its' : List Value} {n : Nat} {f : Array Value → Array Value} {t' : Nat} (I : Inv X pins σ H s) (hH : H l = some (.lst xs))
  (e : s.heap.get? l = some { cls := .type "list", data := .seq its.toArray n }) (hf : f its.toArray = its'.toArray) (hv : Vals ys its') (hz : ys.length ≤ sizeLine) :
  Inv X pins σ (upd H l (.lst ys)) { s with heap := s.heap.update l (Obj.mapSeq f), toks := t' } := by
 have q := PySem.IsL.update e f
 rw [hf] at q
 refine I.write (x := l) (e := l) (by rw [hH]; exact trivial) (.inl rfl) (fun b' u hb hu => (Heap.get?_update_other s.heap (Obj.mapSeq f) (Ne.symm hb)).trans hu) ⟨_, q⟩ ?_
 exact ⟨hz, its', _, hv, q⟩
theorem Inv.lnew {its : List Value} {t' : Nat} (I : Inv X pins σ H s) (hv : Vals ys its) (hz : ys.length ≤ sizeLine) :
  Inv X pins σ (upd H s.heap.objs.size (.lst ys)) { s with heap := s.heap.push { cls := .type "list", data := .seq its.toArray }, toks := t' } :=
 I.laid (fun _ _ q => Heap.get?_push_of_some _ q) (Nat.le_refl _) ⟨hz, its, 0, hv, Heap.get?_push_size _ rfl⟩
theorem Inv.fresh (I : Inv X pins σ H s) : H s.heap.objs.size = none := I.hok.fresh (Nat.le_refl _)
theorem Inv.lstM (I : Inv X pins σ H s) (hH : H l = some (.lst xs)) : xs.length ≤ sizeLine ∧ ∃ (its : List Value) (n : Nat), Vals xs its ∧ xs.length = its.length ∧ s.heap.get? l = some { cls := .type "list", data := .seq its.toArray n } := by
 obtain ⟨z, its, n, r, e⟩ := I.hok l _ hH
 exact ⟨z, its, n, r, r.length, e⟩
theorem notLongL {n : Nat} (h : n ≤ sizeLine) : Builtin.List.listTooLong n = false := by
 unfold Builtin.List.listTooLong
 exact decide_eq_false (by lia)
end
section
variable {X : Cx}
noncomputable def rAppend : V → List V → Hp → VK → Prop := fun x vs H Q => ∃ l xs y, x = .ref l ∧ vs = [y] ∧ H l = some (.lst xs) ∧ xs.length < sizeLine ∧ Q .non (upd H l (.lst (xs ++ [y])))
theorem mt_append : MtM X "list.append" rAppend := by
 intro pins s σ H x vs v us Q I rx rv h
 obtain ⟨l, xs, y, rfl, rfl, hH, hz, q⟩ := h
 cases rx
 obtain ⟨u, rfl, ru⟩ := rv.one
 obtain ⟨z, its, n, r, hl, e⟩ := I.lstM hH
 refine call_meets F.slot_list_append ⟨_, e, rfl⟩ F.entry_list_append (F.args_list_append_2 _ _) (PySem.list_append l its.toArray n u (by rw [List.size_toArray]; lia)) ⟨e, ?_⟩
 refine ⟨.non, _, I.lset (its' := its ++ [u]) hH e (by simp) (r.append (.cons ru .nil)) ?_, rfl, q⟩
 rw [List.length_append, List.length_singleton]
 lia
end
section
variable {prog : Program} {w : World} {A : Around} {E : Value → Shared → Prop} {s : Shared}
end
section
variable {X : Cx}
end
end L2
namespace L2
open PySem PySem.Spec PyProof.Rows
section
variable {κ : Type} [DecidableEq κ]
noncomputable def valV (kvs : List (κ × V)) (k : κ) : Option V := (kvs.find? fun kv => decide (kv.1 = k)).map (·.2)
noncomputable def dropK (kvs : List (κ × V)) (k : κ) : List (κ × V) := kvs.filter fun kv => decide (kv.1 ≠ k)
theorem valV_pos {p : κ × V} {r : List (κ × V)} {k : κ} (e : p.1 = k) : valV (p :: r) k = some p.2 := by simp [valV, List.find?_cons, e]
theorem valV_neg {p : κ × V} {r : List (κ × V)} {k : κ} (e : ¬ p.1 = k) : valV (p :: r) k = valV r k := by simp [valV, List.find?_cons, e]
theorem RelO.getD {o : Option V} {u : Option Value} {d : V} {d' : Value} (r : RelO o u) (rd : RelV d d') : RelV (o.getD d) (u.getD d') := by
 cases o with
 | none => cases u with
  | none => exact rd
  | some _ => exact (show False from r).elim
 | some _ => cases u with
  | none => exact (show False from r).elim
  | some _ => exact r
theorem KV.val {kvs : List (κ × V)} {vs : List (κ × Value)} (r : KV kvs vs) (k : κ) : RelO (valV kvs k) (valueAt vs k) := by
 unfold KV at r
 induction r with
 | nil => exact True.intro
 | @cons p q ps qs h t ih =>
  obtain ⟨h1, h2⟩ := h
  by_cases e : p.1 = k
  ·have e' : q.1 = k := h1.symm.trans e
   have b : valueAt (q :: qs) k = some q.2 := by simp [valueAt, List.find?_cons, e']
   rw [valV_pos e, b]; exact h2
  ·have e' : ¬ q.1 = k := fun z => e (h1.trans z)
   have b : valueAt (q :: qs) k = valueAt qs k := by simp [valueAt, List.find?_cons, e']
   rw [valV_neg e, b]; exact ih
theorem KV.drop {kvs : List (κ × V)} {vs : List (κ × Value)} (r : KV kvs vs) (k : κ) : KV (dropK kvs k) (without vs k) := by
 unfold KV at r ⊢
 unfold dropK without
 induction r with
 | nil => exact .nil
 | @cons p q ps qs h t ih =>
  obtain ⟨h1, h2⟩ := h
  rw [List.filter_cons, List.filter_cons]
  by_cases e : p.1 = k
  ·have a : ¬ decide (p.1 ≠ k) = true := by simp [e]
   have b : ¬ decide (q.1 ≠ k) = true := by simp [h1.symm.trans e]
   rw [if_neg a, if_neg b]; exact ih
  ·have e' : ¬ q.1 = k := fun z => e (h1.trans z)
   have a : decide (p.1 ≠ k) = true := by simp [e]
   have b : decide (q.1 ≠ k) = true := by simp [e']
   rw [if_pos a, if_pos b]; exact .cons ⟨h1, h2⟩ ih
theorem KV.length {kvs : List (κ × V)} {vs : List (κ × Value)} (r : KV kvs vs) : kvs.length = vs.length := Paired.length r
end
noncomputable abbrev KT (H : Hp) : List (List Key × V) → List (List Key × Addr × Value) → Prop := Paired fun p q => p.1 = q.1 ∧ H q.2.1 = some (.tup (p.1.map kV)) ∧ RelV p.2 q.2.2
theorem KT.val {H : Hp} {kvs : List (List Key × V)} {xs : List (List Key × Addr × Value)} (r : KT H kvs xs) (k : List Key) : RelO (valV kvs k) ((atKey xs k).map (·.2)) := by
 induction r with
 | nil => exact True.intro
 | @cons p q ps qs h t ih =>
  obtain ⟨h1, _, h2⟩ := h
  by_cases e : p.1 = k
  ·have e' : q.1 = k := h1.symm.trans e
   have b : atKey (q :: qs) k = some q.2 := by simp [atKey, List.find?_cons, e']
   rw [valV_pos e, b]; exact h2
  ·have e' : ¬ q.1 = k := fun z => e (h1.trans z)
   have b : atKey (q :: qs) k = atKey qs k := by simp [atKey, List.find?_cons, e']
   rw [valV_neg e, b]; exact ih
theorem KT.keeps {H H' : Hp} {kvs : List (List Key × V)} {xs : List (List Key × Addr × Value)} (r : KT H kvs xs) (ht : ∀ b ys, H b = some (.tup ys) → H' b = some (.tup ys)) : KT H' kvs xs :=
 Paired.mapP r fun _ _ z => ⟨z.1, ht _ _ z.2.1, z.2.2⟩
section
variable {P : Program} {w : World} {H : Hp} {h : Heap} {a : Addr}
theorem rd_of {u : HO} (ok : HOk P w H h) (e : Rd H a u) : ObjOk P w H h a u := e.ok ok
theorem dk_rd {kvs : List (Key × V)} (ok : HOk P w H h) (e : Rd H a (.dK kvs)) : kvs.length ≤ sizeLine ∧ (a == sysModules) = false ∧ ∃ vs, KV kvs vs ∧ h.DictOf (mixKind P w) a vs :=
 let ⟨z, y, vs, r, d⟩ := (show ObjOk P w H h a (.dK kvs) from rd_of ok e); ⟨z, y, vs, r, d.dictOf⟩
end
section
variable {X : Cx} {pins : List (Addr × Obj)} {σ : St} {H : Hp} {s : Shared} {a : Addr} {y v : V} {u r : Value} {o : Option V} {A : Around} {E : Value → Shared → Prop}
end
section
variable {X : Cx} {pins : List (Addr × Obj)} {σ : St} {H : Hp} {s : Shared} {a : Addr} {kvs : List (Key × V)} {k : Key} {u : Value} {A : Around} {E : Value → Shared → Prop}
theorem d_len {Q : Value → Shared → Prop} (I : Inv X pins σ H s) (e : Rd H a (.dK kvs)) (h : ∀ t s', Inv X pins σ H s' → Q (.int kvs.length t) s') : wpAny (model X.prog X.w) A (call (.builtin "len") [.ref a]) Q E s := by
 obtain ⟨z, hd, vs, rel, dd⟩ := dk_rd I.hok e
 refine call_len_dict hd dd (by rw [← rel.length]; rw [sizeLine_eq] at z; lia) ?_
 rw [← rel.length]
 exact h _ _ (I.tok _)
end
section
variable {X : Cx} {o i e value : Expr} {pos pos' tpos : Pos} {td ty tv : TE}
end
section
variable {X : Cx} {pos : Pos}
end
section
variable {X : Cx} {pins : List (Addr × Obj)} {σ : St} {H : Hp} {s : Shared} {a : Addr} {y d : V} {u r : Value} {o : Option V} {A : Around} {E : Value → Shared → Prop}
end
section
variable {X : Cx} {o e f : Expr} {apos cpos : Pos} {td ty tx : TE}
end
section
variable {X : Cx} {pins : List (Addr × Obj)} {σ : St} {H : Hp} {s : Shared} {a : Addr} {kvs : List (Key × V)} {A : Around} {E : Value → Shared → Prop}
end
section
variable {X : Cx} {pins : List (Addr × Obj)} {σ : St} {H : Hp} {s : Shared} {a : Addr} {y : V} {u : Value} {A : Around} {E : Value → Shared → Prop}
end
end L2
namespace Att
open PySem PySem.W PySem.Calls PyProof.Rows
theorem ints_of_wellAll {P : Params} {h : Heap} : ∀ (ns : List Int) (vs : List Value), WellAll P h vs (ns.map WData.int) → IntsAre vs ns := by
 intro ns
 induction ns with
 | nil =>
  intro vs w
  rw [List.map_nil] at w
  cases w
  exact .nil
 | cons n ns ih =>
  intro vs w
  rw [List.map_cons] at w
  cases w with
  | cons a b =>
   cases a
   exact .cons _ _ (ih _ b)
theorem script_of {l : OpenLaw} {n : Nat} (hn : l.most = some n) {P : Params} {h : Heap} {args : List WData} {vals : List Value}
  (hpre : l.row.toRowW.claim.pre args = true) (hwl : WellAll P h vals args) :
  ∃ a vs ns, vals = [Value.ref a] ∧ args = [WData.list (ns.map WData.int)] ∧ h.get? a = some { cls := .type "list", data := .seq vs.toArray } ∧ IntsAre vs ns ∧ ns.length ≤ n := by
 have hsh : WShape.hasAll [] args [.list .int] = true := (pre_splitW hpre).1
 have hc : l.pre.holds [] { args := args } = true := (pre_splitW hpre).2
 obtain ⟨d, r, rfl, h1, h2⟩ := hasAllW_cons hsh
 obtain rfl := hasAllW_nil h2
 obtain ⟨xs, rfl, h3⟩ := hasW_list h1
 obtain ⟨ns, rfl⟩ := items_int h3
 have hlen : ns.length ≤ n := by
  unfold OpenLaw.pre at hc
  have h4 : (WTm.not (.lt (.lit (.int (n : Int))) (.len (.arg 0)))).holds [] { args := [.list (ns.map .int)] } = true := by
   have h4 := (holds_andW hc).1
   rw [hn] at h4
   exact h4
  have h5 := condW_of h4 (w_not (w_lt w_lit (w_len_list (w_arg rfl))))
  rw [List.length_map] at h5
  refine Nat.le_of_not_lt fun q => ?_
  have q' : (n : Int) < ((ns.length : Nat) : Int) := by lia
  first
   | (rw [decide_eq_true q'] at h5; exact absurd h5 (by decide))
   | (simp at h5; lia)
 cases hwl with
 | cons w1 w2 =>
  cases w2
  cases w1 with
  | list ho hall => exact ⟨_, _, ns, rfl, rfl, ho, ints_of_wellAll ns _ hall, hlen⟩
theorem post_true (l : OpenLaw) (args : List WData) : l.row.toRowW.claim.post args (.bool true) args = true :=
 postW_of (r := l.row.toRowW) (X := (true == true))
  (show WShape.has [] (.bool true) .bool = true by first | rfl | decide | simp [WShape.has, WShape.arms, WShape.armsAll])
  (show (WTm.eq .res (.lit (.bool true))).value [] { args := args, res := some (.bool true), after := args } = some (.bool (true == true)) from w_eq_bool (w_res rfl) w_lit) rfl
theorem attach_call {l : OpenLaw} {n : Nat} {q : Program} {loose : List Str} {XP : (Str → Option Value) → Heap → Prop} {YP : World → Heap → Prop} {d : DefRec}
  (hn : l.most = some n) (hdf : d.params.defaults = [])
  (call : ∀ (w : World) (s₀ s₁ : Shared) (mg mb : Str → Option Value) (fa : Addr) (o : Obj) (pm cd doc : Value) (a : Addr) (vs : List Value) (ns : List Int),
   Ground q loose [] XP w s₀ mg mb s₁.heap → YP w s₁.heap →
   s₁.heap.get? fa = some o → o.data = .func (docDef d.name d.params d.body d.scope pm cd doc) → s₁.heap.CodeRec cd d.name → mg d.name = some (.ref fa) →
   s₁.heap.get? a = some { cls := .type "list", data := .seq vs.toArray } → IntsAre vs ns → ns.length ≤ n → s₁.gens = #[] →
   codeAny (model l.prog w) callerA (.call (.ref fa) ⟨[.ref a], []⟩) (fun r s' => r = .ok (.ret (.bool true)) ∧ OldK s₁.heap s'.heap ∧ s'.os = s₁.os ∧ AllBare s'.gens) s₁) :
  WalkO q loose XP YP l.row.toRowW d [] (fun f vs => PySem.call f vs) := by
 intro w s₀ s₁ mg mb G Y fa o pm cd doc dV kV ho hd hcd hD hmg hg args vals as hpre hlay hrd hwl hlo
 obtain rfl : dV = .none := Dflts.none hD hdf
 obtain rfl : kV = .none := Dflts.noKw hD
 obtain ⟨a, vs, ns, rfl, rfl, hobj, hints, hlen⟩ := script_of hn hpre hwl
 refine enter_call (codeAny_mono (call w s₀ s₁ mg mb fa o pm cd doc a vs ns G Y ho (fd_plain hd) hcd hmg hobj hints hlen hg) fun r s' hq => ?_)
 obtain ⟨rfl, h2, h3, h4⟩ := hq
 exact ⟨.inl ⟨.bool true, .bool true, [], rfl, fun _ => rfl, .bool true, post_true l _, fun _ => ⟨List.Pairwise.nil, fun _ hm => (nomatch hm)⟩⟩, h2, h3, h4⟩
section
variable {prog : Program} {w : World} {A : Around} {E : Value → Shared → Prop} {s : Shared} {K : Frag}
end
end Att
namespace L2
open PySem PySem.Spec PyProof.Rows
theorem vals_ints : ∀ {vs : List Value} {ns : List Int}, IntsAre vs ns → Vals (ns.map V.int) vs
 | _, _, .nil => .nil
 | _, _, .cons n t h => .cons ⟨t, rfl⟩ (vals_ints h)
noncomputable def Only (H : Hp) : Prop := ∀ b, H b = none ∨ ∃ o xs, H b = some (.frz o (.lst xs))
theorem law_call {P : Program} {w : World} {K : PySem.W.Frag} {mg mb : Str → Option Value} {CX : CXT} {k : Nat} {fa a : Addr} {fd : FuncData} {x : Str} {sp : Sp} {s₁ : Shared} {vs : List Value} {ns : List Int}
  (KX : K.In s₁.heap) (hns : s₁.heap.Ns mainGlobals mg) (hb : s₁.heap.Ns builtinsNs mb) (hbb : ∀ x : Str, x ≠ "__name__" → mb x = bootBuiltins x) (hlim : s₁.heap.NoLimit) (hg : s₁.gens = #[])
  (ha : s₁.heap.get? a = some { cls := .type "list", data := .seq vs.toArray }) (hi : IntsAre vs ns) (hl : ns.length ≤ sizeLine) (hr : Room k callerA)
  (F : ∀ base : Heap, K.In base → base.Ns mainGlobals mg → FnOk P w K mg base CX k fa fd [x] sp) (hbind : ∀ (s : Shared) (u : Value), BindsTo s fd ⟨[u], []⟩ [(x, u)])
  (hsp : ∀ H : Hp, Only H → SqL K H a (ns.map V.int) → sp [.ref a] H (fun v _ => v = .bl true) fun _ _ _ => False)
  (hCX : ∀ H e s', CX [] H s₁ (fun _ _ _ => False) e s' → False) :
  codeAny (model P w) callerA (.call (.ref fa) ⟨[.ref a], []⟩) (fun r s' => r = .ok (.ret (.bool true)) ∧ OldK s₁.heap s'.heap ∧ s'.os = s₁.os ∧ AllBare s'.gens) s₁ := by
 have rv := vals_ints hi
 have lenV := hi.length
 have core : ∀ H : Hp, Only H → SqL K H a (ns.map V.int) → HOk P w H s₁.heap → (∀ b, H b ≠ none → b = a) → (H a ≠ none → K.lookup a = none) →
   codeAny (model P w) callerA (.call (.ref fa) ⟨[.ref a], []⟩) (fun r s' => r = .ok (.ret (.bool true)) ∧ OldK s₁.heap s'.heap ∧ s'.os = s₁.os ∧ AllBare s'.gens) s₁ := by
  intro H hO hS hok hA hK
  have base_of : ∀ {b : Addr} {o : Obj}, s₁.heap.get? b = some o → H b = none → (hidT s₁.heap H).get? b = some o := fun e n => hidT_get e n
  have noA : ∀ {b : Addr} {o : Obj} {es : Array DictEntry} {ep : Nat}, s₁.heap.get? b = some o → o.data = .dict es ep → H b = none := fun {b o es ep} e d => by
   cases q : H b with
   | none => rfl
   | some u =>
    have e' : b = a := hA b (by rw [q]; simp)
    subst e'
    rw [ha] at e; cases e
    have d' : Data.seq vs.toArray _ = Data.dict es ep := d
    cases d'
  have nsK : ∀ {b : Addr} {m : Str → Option Value}, s₁.heap.Ns b m → (hidT s₁.heap H).Ns b m := fun {b m} ⟨o, es, ep, e, d, r⟩ => ⟨o, es, ep, base_of e (noA e d), d, r⟩
  have hKb : K.In (hidT s₁.heap H) := fun b o e => base_of (KX b o e) (by
   cases q : H b with
   | none => rfl
   | some u =>
    have e' : b = a := hA b (by rw [q]; simp)
    subst e'
    rw [hK (by rw [q]; simp)] at e; cases e)
  have hM : Mod K mg (hidT s₁.heap H) := ⟨hKb, nsK hns, ⟨mb, nsK hb, hbb⟩, let ⟨mc, h1, h2⟩ := hlim; ⟨mc, nsK h1, h2⟩⟩
  have e0 : Env0 P w K mg (hidT s₁.heap H) callerA [] s₁ H := ⟨rfl, hM, fun b o e => of_hidT e, Nat.le_of_eq (hidT_size _ _), trivial, fun b hb => absurd (show b ∈ ([] : List Addr) from hb) (by simp), hok, .of_eq hg⟩
  refine codeAny_mono ((F _ hKb (nsK hns)).run callerA [] s₁ H ⟨[.ref a], []⟩ [.ref a] [.ref a] _ _ hr e0 (hbind s₁ (.ref a)) (.cons rfl .nil) (hsp H hO hS)) fun r s' h => ?_
  cases r with
  | error e => exact (hCX H e s' h).elim
  | ok fl =>
   cases fl with
   | next => exact False.elim h
   | brk => exact False.elim h
   | cont => exact False.elim h
   | ret u =>
    obtain ⟨v, H', os, bare, un, hok', r', q⟩ := h
    have q' : v = .bl true := q
    subst q'
    obtain rfl : u = Value.bool true := r'
    refine ⟨rfl, OldK.of_keep fun b o e => ?_, os, bare⟩
    cases q : H b with
    | none => exact un.keep b o e q (by intro z; exact absurd (show b ∈ ([] : List Addr) from z) (by simp)) (by simp)
    | some u =>
     rcases hO b with z | ⟨ob, xs, z⟩
     ·rw [q] at z; cases z
     ·have z2 := un.frzs b ob _ z
      obtain ⟨e1, _⟩ := hok b _ z
      obtain ⟨e2, _⟩ := hok' b _ z2
      rw [e] at e1; cases e1
      exact e2
 cases hk : K.lookup a with
 | some o =>
  have e := KX a o hk
  rw [ha] at e
  cases e
  refine core (fun _ => none) (fun _ => .inl rfl) (.inr ⟨_, vs.toArray, _, hk, rfl, rfl, rfl, by rw [List.size_toArray, lenV]; exact hl, by simpa using rv⟩) (fun b u z => by have z' : (none : Option HO) = some u := z; cases z') (fun b z => absurd rfl z) fun z => absurd rfl z
 | none =>
  refine core (fun b => if b = a then some (.frz { cls := .type "list", data := .seq vs.toArray } (.lst (ns.map V.int))) else none) (fun b => ?_) (.inl (.inr ⟨{ cls := .type "list", data := .seq vs.toArray }, if_pos rfl⟩)) (fun b u z => ?_) (fun b z => ?_) fun _ => hk
  ·by_cases hb : b = a
   ·exact .inr ⟨_, _, if_pos hb⟩
   ·exact .inl (if_neg hb)
  ·by_cases hb : b = a
   ·have z' := (if_pos hb).symm.trans z
    cases z'
    subst hb
    exact ⟨ha, by rw [List.length_map]; exact hl, vs, _, rv, ha⟩
   ·have z' := (if_neg hb).symm.trans z
    cases z'
  ·by_cases hb : b = a
   ·exact hb
   ·exact absurd (if_neg hb) z
end L2
namespace L2
open PySem PySem.Spec PyProof.Rows
theorem walk_of {l : PySem.W.OpenLaw} {n k : Nat} {q : Program} {loose : List Str} {XP : (Str → Option Value) → Heap → Prop} {YP : World → Heap → Prop} {d : DefRec} {K : Params → PySem.W.Frag} {CX : World → CXT} {sp : World → Sp} {x : Str}
  (hn : l.most = some n) (hn2 : n ≤ sizeLine) (hdf : d.params.defaults = []) (hr : Room k callerA)
  (hY : ∀ (w : World) (h : Heap), YP w h → (K w.params).In h)
  (F : ∀ (w : World) (mg : Str → Option Value) (fa : Addr) (h : Heap), (K w.params).In h → h.Ns mainGlobals mg → mg d.name = some (.ref fa) →
   ∃ fd : FuncData, (∀ (s : Shared) (u : Value), BindsTo s fd ⟨[u], []⟩ [(x, u)]) ∧
    ∀ base : Heap, (K w.params).In base → base.Ns mainGlobals mg → FnOk l.prog w (K w.params) mg base (CX w) k fa fd [x] (sp w))
  (hsp : ∀ (w : World) (H : Hp) (a : Addr) (ns : List Int), ns.length ≤ n → Only H → SqL (K w.params) H a (ns.map V.int) → sp w [.ref a] H (fun v _ => v = .bl true) fun _ _ _ => False)
  (hCX : ∀ (w : World) (H : Hp) (s : Shared) (e : Value) (s' : Shared), CX w [] H s (fun _ _ _ => False) e s' → False) :
  PySem.W.WalkO q loose XP YP l.row.toRowW d [] (fun f vs => PySem.call f vs) := by
 refine Att.attach_call hn hdf fun w s₀ s₁ mg mb fa o pm cd doc a vs ns G Y ho hd hcd hmg hobj hints hlen hg => ?_
 have KX := hY w _ Y
 obtain ⟨fd, hb, hF⟩ := F w mg fa _ KX G.T.g hmg
 exact law_call KX G.T.g G.T.b G.T.builtins G.T.nolimit hg hobj hints (Nat.le_trans hlen hn2) hr hF hb (fun H hO hS => hsp w H a ns hlen hO hS) fun H e s' => hCX w H s₁ e s'
end L2
/- THE LAST THEOREM (shape; LID, My.* are yours):
  My.Adr: a structure of the addresses that your layer names (classes, functions); My.Txt K t: a structure (Prop) of the equations over K;
  My.txt_mk : {K} {implicit addresses ..} (e1 : nsIn K mainGlobals "law" = some (some (.ref f))) (e2 : K.lookup f = some ⟨oc, od, .func (fnOf "law" "law" params body scope dV kV doc pm an cdv ct), sl⟩) (e3 : codeIn K cdv "law" = true) .. : ∃ t, My.Txt K t
(the tactic k_is has no namespace: write k_is) -/
namespace L2
open PySem PySem.Spec PyProof.Rows
noncomputable def defArgs (s : Stmt) : Arguments := match s with
 | .FunctionDef _ a _ _ _ _ _ _ _ _ => a
 | _ => { posonlyargs := [], args := [], vararg := none, kwonlyargs := [], kw_defaults := [], kwarg := none, defaults := [] }
noncomputable def defBody (s : Stmt) : List Stmt := match s with
 | .FunctionDef _ _ b _ _ _ _ _ _ _ => b
 | _ => []
noncomputable def defScope (s : Stmt) : Scope := match s with
 | .FunctionDef _ _ _ _ _ _ sc _ _ _ => sc
 | _ => { kind := .function, names := [], isGenerator := false, isCoroutine := false }
noncomputable abbrev CX0 : CXT := fun _ _ _ _ _ _ => False
noncomputable abbrev E0 : XK := fun _ _ _ => False
theorem pass0 {X : Cx} : Passes CX0 X E0 := fun _ _ _ _ _ _ _ h => h.elim
structure Fun (K : PySem.W.Frag) (x qual : Str) (st : Stmt) (f : Addr) (fd : FuncData) : Prop where
 ex : ∃ (oc : Value) (od : Option Addr) (kV doc pm : Value) (an : Option Addr) (cdv ct : Value) (osl : Array (Option Value)),
  fd = PySem.W.fnOf x qual (defArgs st) (defBody st) (defScope st) .none kV doc pm an cdv ct ∧ K.lookup f = some ⟨oc, od, .func fd, osl⟩ ∧ PySem.W.codeIn K cdv qual = true
 kp : PySem.W.keepIn K (.ref f) = true
section
variable {P : Program} {w : World} {K : PySem.W.Frag} {mg : Str → Option Value} {base : Heap}
theorem Fun.ok {x qual : Str} {st : Stmt} {f : Addr} {fd : FuncData} {N ps : List Str} {k : Nat} {sp : Sp} (F : Fun K x qual st f fd) (S : FnScope N ps (defScope st)) (len : ∀ vs H Q E, sp vs H Q E → vs.length = ps.length)
  (hbody : ∀ (cdv : Value) (A : Around) (outer : List Env) (s : Shared) (H : Hp) (vs : List V) (Q : VK) (E : XK), Room k (A.deeper (envOfC qual (defScope st) s.heap.objs.size f cdv)) → sp vs H Q E →
   ∃ t, PSs (cxOf CX0 P w K mg base N qual (defScope st) f cdv A outer s H E).nox (defBody st) t ∧ t { nx := fun _ H' => Q .non H', rt := Q } (start N vs) H) : FnOk P w K mg base CX0 (k + 1) f fd ps sp := by
 obtain ⟨oc, od, kV, doc, pm, an, cdv, ct, osl, rfl, lk, hcd⟩ := F.ex
 refine fn_of lk hcd S len fun A outer s H vs Q E hr hsp => ?_
 obtain ⟨t, h, q⟩ := hbody cdv A outer s H vs Q E hr hsp
 exact ⟨t, h.nox, q⟩
theorem Fun.binds {x qual : Str} {st : Stmt} {f : Addr} {fd : FuncData} {ps : List Str} (F : Fun K x qual st f fd)
  (h : ∀ (kV doc pm : Value) (an : Option Addr) (cdv ct : Value) (us : List Value), us.length = ps.length → bindArgs (PySem.W.fnOf x qual (defArgs st) (defBody st) (defScope st) .none kV doc pm an cdv ct) ⟨us, []⟩ = pure (ps.zip us)) : Binds K fd ps [] := by
 obtain ⟨oc, od, kV, doc, pm, an, cdv, ct, osl, rfl, lk, hcd⟩ := F.ex
 exact .all (h kV doc pm an cdv ct)
theorem fun_mk {x qual : Str} {st : Stmt} {f : Addr} {oc : Value} {od an : Option Addr} {osl : Array (Option Value)} {kV doc pm cdv ct : Value} (l : K.lookup f = some ⟨oc, od, .func (PySem.W.fnOf x qual (defArgs st) (defBody st) (defScope st) .none kV doc pm an cdv ct), osl⟩)
  (c : PySem.W.codeIn K cdv qual = true) (k : PySem.W.keepIn K (.ref f) = true) : Fun K x qual st f (PySem.W.fnOf x qual (defArgs st) (defBody st) (defScope st) .none kV doc pm an cdv ct) := ⟨⟨oc, od, kV, doc, pm, an, cdv, ct, osl, rfl, l, c⟩, k⟩
end
theorem small1000 {n : Nat} (h : n ≤ 1000) : n < sizeLine := Nat.lt_of_le_of_lt h (by decide)
section
variable {X : Cx}
theorem pv (i : Nat) {x : Str} {pos : Pos} (hN : X.N[i]? = some x := by rfl) (hv : Vis X.env.scope x := by first | exact Or.inl rfl | exact Or.inr (Or.inl rfl) | exact Or.inr (Or.inr rfl)) (hd : (x == ("__debug__" : Str)) = false := by decide)
  (hcd : (x == ("__classdict__" : Str)) = false := by decide) : PE X (.Name x pos) (tVar i) := pe_var hN hv hd hcd
end
noncomputable def Same (H H' : Hp) : Prop := ∀ b o, H b = some o → H' b = some o
theorem Same.refl (H : Hp) : Same H H := fun _ _ h => h
theorem Same.trans {H H1 H2 : Hp} (a : Same H H1) (b : Same H1 H2) : Same H H2 := fun c o h => b c o (a c o h)
theorem Same.free {H H' : Hp} (e : Same H H') {l : Addr} (h : H' l = Option.none) : H l = Option.none := by
 cases q : H l with
 | none => rfl
 | some o =>
  rw [e l o q] at h
  cases h
theorem Same.seq {K : PySem.W.Frag} {H H' : Hp} {a : Addr} {xs : List V} (e : Same H H') (h : SqL K H a xs) : SqL K H' a xs := by
 rcases h with (h | ⟨o, h⟩) | h
 ·exact .inl (.inl (e _ _ h))
 ·exact .inl (.inr ⟨o, e _ _ h⟩)
 ·exact .inr h
section
variable {X : Cx}
theorem call_lenD : CallR X (.builtin "len") (fun xs H Q => ∃ a kvs, xs = [V.ref a] ∧ H a = some (.dK kvs) ∧ Q (.int kvs.length) H) := by
 intro pins s σ H xs us Q I r h
 obtain ⟨a, kvs, rfl, ha, q⟩ := h
 obtain ⟨u, rfl, ru⟩ := vals1 r
 cases ru
 exact d_len I (.inl ha) fun t s' I' => ⟨.int kvs.length, H, I', ⟨t, rfl⟩, q⟩
end
section
variable {κ : Type} [DecidableEq κ]
end
end L2
namespace L2
open PySem PySem.Spec PyProof.Rows
noncomputable def CX1 (P : Program) (w : World) : CXT := fun outer H s E ev s' => ∃ (e t C : Addr) (H' : Hp) (B : Heap), ev = .ref e ∧ s'.os = s.os ∧ AllBare s'.gens ∧ Un (frs outer) [] H H' s.heap s'.heap ∧ HOk P w H' s'.heap ∧ E (.ref C) none H' ∧
 Heap.FlyingW B outer e (.ref C) (.ref t) s'.heap ∧ (∀ b o, s.heap.get? b = some o → b ∉ frs outer → ∃ o', B.get? b = some o') ∧ ∀ b o, H' b = some o → ∃ o', B.get? b = some o'
end L2
namespace L2
open PySem PySem.Spec PyProof.Rows
end L2
namespace L2
open PySem PySem.Spec PyProof.Rows
theorem Un.held {P : Program} {w : World} {l : List Env} {H H' : Hp} {h0 h3 h5 B : Heap} {e : Addr} {cls a0 : Value} (U : Un (frs l) [] H H' h0 h3) (hok : HOk P w H' h3) (fl : Heap.FlyingW B l e cls a0 h3) (st : B.StaysIn h5) (up : h3.UpToSlots h5)
  (cov : ∀ b o, h0.get? b = some o → b ∉ frs l → ∃ o', B.get? b = some o') (covT : ∀ b o, H' b = some o → ∃ o', B.get? b = some o') : Un (frs l) [] H H' h0 h5 ∧ HOk P w H' h5 := by
 have same : ∀ b o o', h3.get? b = some o → B.get? b = some o' → h5.get? b = some o := fun b o o' q1 q2 => by
  have := fl.1 b o' q2
  rw [q1] at this
  cases this
  exact st b o q2
 have slot : ∀ b o, h3.get? b = some o → b ∈ frs l → ∃ sl, h5.get? b = some { o with slots := sl } := fun b o q hb => by
  obtain ⟨_, o', ho', hnr⟩ := fl.2.2.1.mem hb
  rw [q] at ho'
  cases ho'
  exact up b o q hnr
 refine ⟨⟨fun b o q n nb hx => ?_, fun b o q n hb hx => ?_, U.free, fun b o q hx => ?_, U.tups, U.frzs, U.tbls⟩, fun a o q => ?_⟩
 ·obtain ⟨o', hB⟩ := cov b o q nb
  exact same b o o' (U.keep b o q n nb hx) hB
 ·obtain ⟨sl, e1⟩ := U.slot b o q n hb hx
  obtain ⟨sl2, e2⟩ := slot b _ e1 hb
  exact ⟨sl2, e2⟩
 ·obtain ⟨o2, e2⟩ := U.there b o q hx
  by_cases hb : b ∈ frs l
  ·obtain ⟨sl, e3⟩ := slot b o2 e2 hb
   exact ⟨_, e3⟩
  ·obtain ⟨o', hB⟩ := cov b o q hb
   exact ⟨o2, same b o2 o' e2 hB⟩
 ·refine (hok a o q).stay (fun c v hc r => ?_) (fun _ r => r) fun _ _ r => r
  have hT : ∃ o1, H' c = some o1 := by
   rcases hc with rfl | hc
   ·exact ⟨_, q⟩
   ·exact ⟨_, hc⟩
  obtain ⟨o1, h1⟩ := hT
  obtain ⟨o', hB⟩ := covT c o1 h1
  exact same c v o' r hB
end L2
namespace L2
open PySem PySem.Spec PyProof.Rows
section
variable {M : Model} {A : Around} {E : Value → Shared → Prop} {h : Heap} {g : Array GenState} {d : Drawn} {t : Nat} {os : OsState} {e C : Addr} {oe : Obj}
 {nm q : Str} {N : Addr} {bs bm : List Value} {hdct : Bool} {sn : List Str} {sub : List Value} {ab : Bool} {col : Option Bool} {dd : Option Addr} {k0 k1 k2 k3 k5 : Option Value} {newId : String}
 {nm' q' : Str} {N' D : Addr} {bs' bm' : List Value} {hdct' : Bool} {sn' : List Str} {sub' : List Value} {ab' : Bool} {col' : Option Bool} {dd' : Option Addr} {k0' k1' k2' k3' k5' : Option Value} {newId' : String}
end
noncomputable def OwnAt (h : Heap) (C : Addr) (bm : List Value) : Prop := ∃ nm q N bs hdct sn sub ab col dd k0 k1 k2 k3 k5 newId, h.get? C = some (excClassObj nm q C N bs bm hdct sn sub ab col dd k0 k1 k2 k3 k5 newId) ∧ bm.contains (.type "BaseException") = true
end L2
namespace L2
open PySem PySem.Spec PyProof.Rows
structure Cau (X : Cx) (pins : List (Addr × Obj)) (σ : L2.St) (H' : Hp) (e t C : Addr) (B : Heap) (s : Shared) : Prop where
 org : ∃ H0 s0, Inv X pins σ H0 s0 ∧ s.os = s0.os ∧ Un (frs X.stack) [] H0 H' s0.heap s.heap ∧ ∀ b o, s0.heap.get? b = some o → b ∉ frs X.stack → ∃ o', B.get? b = some o'
 bare : AllBare s.gens
 hok : HOk X.prog X.w H' s.heap
 fly : Heap.FlyingW B X.stack e (.ref C) (.ref t) s.heap
 cov : ∀ b o, H' b = some o → ∃ o', B.get? b = some o'
section
variable {X : Cx} {pins : List (Addr × Obj)} {σ : L2.St} {H' : Hp} {e t C : Addr} {B h' : Heap} {s : Shared}
theorem Cau.slots {tk : Nat} (c : Cau X pins σ H' e t C B s) (fl : Heap.FlyingW B X.stack e (.ref C) (.ref t) h') (up : s.heap.UpToSlots h') : Cau X pins σ H' e t C B { s with heap := h', toks := tk } := by
 obtain ⟨H0, s0, I, hos, U, cov⟩ := c.org
 obtain ⟨U', hk⟩ := U.held c.hok c.fly fl.1 up cov c.cov
 exact ⟨⟨H0, s0, I, hos, U', cov⟩, c.bare, hk, fl, c.cov⟩
end
section
variable {X : Cx} {pins : List (Addr × Obj)} {σ : L2.St} {H : Hp} {s : Shared} {ev : Value}
end
end L2
namespace L2
open PySem PySem.Spec PyProof.Rows
section
variable {X : Cx} {pins : List (Addr × Obj)} {σ : L2.St} {H' : Hp} {e t C D : Addr} {B : Heap} {s : Shared} {bm : List Value} {x : Str} {np pos : Pos} {name : Option Str} {body : List Stmt} {rest : List ExceptHandler} {Q : Flow → Shared → Prop} {E : Value → Shared → Prop}
end
end L2
namespace L2
open PySem PySem.Spec PyProof.Rows
section
variable {X : Cx} {pins : List (Addr × Obj)} {σ : L2.St} {H' : Hp} {e t C : Addr} {B : Heap} {s : Shared} {bm : List Value} {pos : Pos} {name : Option Str} {body : List Stmt} {rest : List ExceptHandler} {Q : Flow → Shared → Prop} {E : Value → Shared → Prop}
theorem OwnAt.keeps {h h' : Heap} {C : Addr} {bm : List Value} (o : OwnAt h C bm) (k : ∀ b o, h.get? b = some o → h'.get? b = some o) : OwnAt h' C bm := by
 obtain ⟨nm, q, N, bs, hdct, sn, sub, ab, col, dd, k0, k1, k2, k3, k5, newId, hC, hb⟩ := o
 exact ⟨nm, q, N, bs, hdct, sn, sub, ab, col, dd, k0, k1, k2, k3, k5, newId, k _ _ hC, hb⟩
end
end L2
namespace L2
open PySem PySem.Spec PyProof.Rows
section
variable {X : Cx} {pins : List (Addr × Obj)} {σ : L2.St} {H : Hp} {s : Shared}
end
end L2
namespace L2
open PySem PySem.Spec PyProof.Rows
noncomputable def ExcCls (e C : Addr) (h : Heap) : Prop := ∃ o, h.get? e = some o ∧ o.cls = .ref C
section
variable {X : Cx} {pins : List (Addr × Obj)} {σ : L2.St} {H' : Hp} {e t C : Addr} {B : Heap} {s : Shared} {pos : Pos} {E : Value → Shared → Prop}
end
end L2
namespace L2
open PySem PySem.Spec PyProof.Rows
structure Hel (X : Cx) (pins : List (Addr × Obj)) (σ : L2.St) (H' : Hp) (e t C : Addr) (B : Heap) (s : Shared) : Prop where
 org : ∃ H0 s0, Inv X pins σ H0 s0 ∧ s.os = s0.os ∧ Un (frs X.stack) [] H0 H' s0.heap s.heap ∧ ∀ b o, s0.heap.get? b = some o → b ∉ frs X.stack → ∃ o', B.get? b = some o'
 bare : AllBare s.gens
 hok : HOk X.prog X.w H' s.heap
 held : Heap.HeldW B X.stack e (.ref C) (.ref t) X.env.locals s.heap
 cov : ∀ b o, H' b = some o → ∃ o', B.get? b = some o'
theorem un_held {P : Program} {w : World} {l : List Env} {H H' : Hp} {h0 h3 h5 B : Heap} (U : Un (frs l) [] H H' h0 h3) (hok : HOk P w H' h3) (st0 : B.StaysIn h3) (ff : h3.FunFrames B l) (st : B.StaysIn h5) (up : h3.UpToSlots h5)
  (cov : ∀ b o, h0.get? b = some o → b ∉ frs l → ∃ o', B.get? b = some o') (covT : ∀ b o, H' b = some o → ∃ o', B.get? b = some o') : Un (frs l) [] H H' h0 h5 ∧ HOk P w H' h5 := by
 have same : ∀ b o o', h3.get? b = some o → B.get? b = some o' → h5.get? b = some o := fun b o o' q1 q2 => by
  have := st0 b o' q2
  rw [q1] at this
  cases this
  exact st b o q2
 have slot : ∀ b o, h3.get? b = some o → b ∈ frs l → ∃ sl, h5.get? b = some { o with slots := sl } := fun b o q hb => by
  obtain ⟨_, o', ho', hnr⟩ := ff.mem hb
  rw [q] at ho'
  cases ho'
  exact up b o q hnr
 refine ⟨⟨fun b o q n nb hx => ?_, fun b o q n hb hx => ?_, U.free, fun b o q hx => ?_, U.tups, U.frzs, U.tbls⟩, fun a o q => ?_⟩
 ·obtain ⟨o', hB⟩ := cov b o q nb
  exact same b o o' (U.keep b o q n nb hx) hB
 ·obtain ⟨sl, e1⟩ := U.slot b o q n hb hx
  obtain ⟨sl2, e2⟩ := slot b _ e1 hb
  exact ⟨sl2, e2⟩
 ·obtain ⟨o2, e2⟩ := U.there b o q hx
  by_cases hb : b ∈ frs l
  ·obtain ⟨sl, e3⟩ := slot b o2 e2 hb
   exact ⟨_, e3⟩
  ·obtain ⟨o', hB⟩ := cov b o q hb
   exact ⟨o2, same b o2 o' e2 hB⟩
 ·refine (hok a o q).stay (fun c v hc r => ?_) (fun _ r => r) fun _ _ r => r
  have hT : ∃ o1, H' c = some o1 := by
   rcases hc with rfl | hc
   ·exact ⟨_, q⟩
   ·exact ⟨_, hc⟩
  obtain ⟨o1, h1⟩ := hT
  obtain ⟨o', hB⟩ := covT c o1 h1
  exact same c v o' r hB
section
variable {X : Cx} {pins : List (Addr × Obj)} {σ : L2.St} {H H' : Hp} {e t C : Addr} {B : Heap} {s s3 : Shared} {ev : Value} {E : Value → Shared → Prop}
theorem Hel.slots {h' : Heap} (c : Hel X pins σ H' e t C B s) (hl : Heap.HeldW B X.stack e (.ref C) (.ref t) X.env.locals h') (up : s.heap.UpToSlots h') : Hel X pins σ H' e t C B { s with heap := h' } := by
 obtain ⟨H0, s0, I, hos, U, cov⟩ := c.org
 obtain ⟨U', hk⟩ := un_held U c.hok c.held.1 c.held.2.2.1 hl.1 up cov c.cov
 exact ⟨⟨H0, s0, I, hos, U', cov⟩, c.bare, hk, hl, c.cov⟩
end
end L2
namespace Fw
open PySem
noncomputable abbrev Key := Sum Int Str
inductive T where
 | non | bl (b : Bool) | int (i : Int) | str (x : Str)
 | lst (ts : List T) | tup (ts : List T) | dct (kts : List (Key × T)) | exc (c : Str) (t : Option Str)
inductive SV where
 | val (t : T) | cel (k : Nat) | box (xs : List (Sum T Nat))
noncomputable abbrev Store := List (Bool × T)
noncomputable abbrev Slots := List (Option SV)
inductive R (α : Type) where
 | ok (a : α) (μ : Store) | err (c : T) (μ : Store) | bad
noncomputable def R.bind {α β : Type} (x : R α) (f : α → Store → R β) : R β := match x with
 | .ok a μ => f a μ
 | .err c μ => .err c μ
 | .bad => .bad
@[simp] theorem R.bind_ok {α β : Type} (a : α) (μ : Store) (f : α → Store → R β) : (R.ok a μ).bind f = f a μ := (rfl)
noncomputable def R.lift {α : Type} (o : Option α) (μ : Store) : R α := match o with
 | some a => .ok a μ
 | none => .bad
@[simp] theorem R.lift_some {α : Type} (a : α) (μ : Store) : R.lift (some a) μ = .ok a μ := (rfl)
theorem R.bind_eq_ok {α β : Type} {x : R α} {f : α → Store → R β} {b : β} {μ : Store} (h : x.bind f = .ok b μ) : ∃ a μ1, x = .ok a μ1 ∧ f a μ1 = .ok b μ := by
 cases x with
 | ok a μ1 => exact ⟨a, μ1, rfl, h⟩
 | err c μ1 => cases h
 | bad => cases h
theorem R.lift_eq_ok {α : Type} {o : Option α} {μ μ' : Store} {a : α} (h : R.lift o μ = .ok a μ') : o = some a ∧ μ = μ' := by
 cases o with
 | none => cases h
 | some x => cases h; exact ⟨rfl, rfl⟩
noncomputable def R.calm {α : Type} : R α → R α
 | .ok a μ => .ok a μ
 | _ => .bad
@[simp] theorem R.calm_ok {α : Type} (a : α) (μ : Store) : (R.ok a μ).calm = .ok a μ := (rfl)
theorem R.calm_eq {α : Type} {r : R α} {a : α} {μ : Store} (h : r.calm = .ok a μ) : r = .ok a μ := by
 cases r with
 | ok b ν => exact h
 | err c ν => cases h
 | bad => cases h
noncomputable abbrev D := Slots → Store → R SV
noncomputable def szL : Nat := 16777216
noncomputable def rd (μ : Store) : SV → Option T
 | .val t => some t
 | .cel k => (μ[k]?).map (·.2)
 | .box _ => none
@[simp] theorem rd_val (μ : Store) (t : T) : rd μ (.val t) = some t := (rfl)
noncomputable def frz1 (x : Sum T Nat) (μ : Store) : R T := match x with
 | .inl t => .ok t μ
 | .inr k => match μ[k]? with
  | some (_, t) => .ok t (μ.set k (false, t))
  | none => .bad
noncomputable def frz1s : List (Sum T Nat) → Store → R (List T)
 | [], μ => .ok [] μ
 | x :: xs, μ => (frz1 x μ).bind fun t μ1 => (frz1s xs μ1).bind fun ts μ2 => .ok (t :: ts) μ2
noncomputable def frz (sv : SV) (μ : Store) : R T := match sv with
 | .val t => .ok t μ
 | .cel k => match μ[k]? with
  | some (_, t) => .ok t (μ.set k (false, t))
  | none => .bad
 | .box xs => (frz1s xs μ).bind fun ts μ1 => .ok (.tup ts) μ1
@[simp] theorem frz_val (μ : Store) (t : T) : frz (.val t) μ = .ok t μ := (rfl)
noncomputable def frzs : List SV → Store → R (List T)
 | [], μ => .ok [] μ
 | x :: xs, μ => (frz x μ).bind fun t μ1 => (frzs xs μ1).bind fun ts μ2 => .ok (t :: ts) μ2
@[simp] theorem frzs_nil (μ : Store) : frzs [] μ = .ok [] μ := (rfl)
@[simp] theorem frzs_cons (x : SV) (xs : List SV) (μ : Store) : frzs (x :: xs) μ = (frz x μ).bind fun t μ1 => (frzs xs μ1).bind fun ts μ2 => .ok (t :: ts) μ2 := (rfl)
theorem frz1_no (x : Sum T Nat) (μ : Store) (c : T) (μ' : Store) : frz1 x μ ≠ .err c μ' := by
 cases x with
 | inl t => intro h; cases h
 | inr k =>
  unfold frz1
  cases q : μ[k]? with
  | none => simp [q]
  | some p => simp [q]
theorem frz1s_no : ∀ (xs : List (Sum T Nat)) (μ : Store) (c : T) (μ' : Store), frz1s xs μ ≠ .err c μ'
 | [], μ, c, μ' => by intro h; cases h
 | x :: xs, μ, c, μ' => by
  unfold frz1s
  cases q : frz1 x μ with
  | err d μ1 => exact absurd q (frz1_no x μ d μ1)
  | bad => intro h; cases h
  | ok t μ1 =>
   rw [R.bind_ok]
   cases q2 : frz1s xs μ1 with
   | err d μ2 => exact absurd q2 (frz1s_no xs μ1 d μ2)
   | bad => intro h; cases h
   | ok ts μ2 => intro h; cases h
theorem frz_no (x : SV) (μ : Store) (c : T) (μ' : Store) : frz x μ ≠ .err c μ' := by
 cases x with
 | val t => intro h; cases h
 | cel k =>
  unfold frz
  cases q : μ[k]? with
  | none => simp [q]
  | some p => simp [q]
 | box xs =>
  show (frz1s xs μ).bind _ ≠ _
  cases q : frz1s xs μ with
  | err d μ1 => exact absurd q (frz1s_no xs μ d μ1)
  | bad => intro h; cases h
  | ok t μ1 => intro h; cases h
theorem frzs_no : ∀ (xs : List SV) (μ : Store) (c : T) (μ' : Store), frzs xs μ ≠ .err c μ'
 | [], μ, c, μ' => by intro h; cases h
 | x :: xs, μ, c, μ' => by
  rw [frzs_cons]
  cases q : frz x μ with
  | err d μ1 => exact absurd q (frz_no x μ d μ1)
  | bad => intro h; cases h
  | ok t μ1 =>
   rw [R.bind_ok]
   cases q2 : frzs xs μ1 with
   | err d μ2 => exact absurd q2 (frzs_no xs μ1 d μ2)
   | bad => intro h; cases h
   | ok ts μ2 => intro h; cases h
noncomputable def slot (e : Slots) (i : Nat) : Option SV := match e[i]? with
 | some (some sv) => some sv
 | _ => none
@[simp] theorem slot_zero (x : SV) (e : Slots) : slot (some x :: e) 0 = some x := (rfl)
@[simp] theorem slot_none (e : Slots) : slot (none :: e) 0 = none := (rfl)
@[simp] theorem slot_succ (x : Option SV) (e : Slots) (i : Nat) : slot (x :: e) (i + 1) = slot e i := (rfl)
noncomputable def dVar (i : Nat) : D := fun e μ => R.lift (slot e i) μ
@[simp] theorem dVar_is (i : Nat) (e : Slots) (μ : Store) : dVar i e μ = R.lift (slot e i) μ := (rfl)
noncomputable def dC (t : T) : D := fun _ μ => .ok (.val t) μ
@[simp] theorem dC_is (t : T) (e : Slots) (μ : Store) : dC t e μ = .ok (.val t) μ := (rfl)
noncomputable def ap1 (f : T → Option T) : Option T → Option SV
 | some t => (f t).map SV.val
 | none => none
noncomputable def ap2 (f : T → T → Option T) : Option T → Option T → Option SV
 | some t, some u => (f t u).map SV.val
 | _, _ => none
@[simp] theorem ap1_some (f : T → Option T) (t : T) : ap1 f (some t) = (f t).map SV.val := (rfl)
@[simp] theorem ap2_some (f : T → T → Option T) (t u : T) : ap2 f (some t) (some u) = (f t u).map SV.val := (rfl)
theorem ap1_eq {f : T → Option T} {o : Option T} {w : SV} (h : ap1 f o = some w) : ∃ t u, o = some t ∧ f t = some u ∧ w = .val u := by
 cases o with
 | none => cases h
 | some t =>
  obtain ⟨u, h1, rfl⟩ := Option.map_eq_some_iff.mp (show (f t).map SV.val = some w from h)
  exact ⟨t, u, rfl, h1, rfl⟩
theorem ap2_eq {f : T → T → Option T} {o p : Option T} {w : SV} (h : ap2 f o p = some w) : ∃ t u v, o = some t ∧ p = some u ∧ f t u = some v ∧ w = .val v := by
 cases o with
 | none => cases p <;> cases h
 | some t =>
  cases p with
  | none => cases h
  | some u =>
   obtain ⟨v, h1, rfl⟩ := Option.map_eq_some_iff.mp (show (f t u).map SV.val = some w from h)
   exact ⟨t, u, v, rfl, rfl, h1, rfl⟩
noncomputable def dUn (f : T → Option T) (a : D) : D := fun e μ => (a e μ).bind fun x μ1 => R.lift (ap1 f (rd μ1 x)) μ1
@[simp] theorem dUn_is (f : T → Option T) (a : D) (e : Slots) (μ : Store) : dUn f a e μ = (a e μ).bind fun x μ1 => R.lift (ap1 f (rd μ1 x)) μ1 := (rfl)
noncomputable def dBin (f : T → T → Option T) (a b : D) : D := fun e μ => (a e μ).bind fun x μ1 => (b e μ1).bind fun y μ2 => R.lift (ap2 f (rd μ2 x) (rd μ2 y)) μ2
@[simp] theorem dBin_is (f : T → T → Option T) (a b : D) (e : Slots) (μ : Store) : dBin f a b e μ = (a e μ).bind fun x μ1 => (b e μ1).bind fun y μ2 => R.lift (ap2 f (rd μ2 x) (rd μ2 y)) μ2 := (rfl)
noncomputable def asB : SV → Option Bool
 | .val (.bl b) => some b
 | _ => none
@[simp] theorem asB_bl (b : Bool) : asB (.val (.bl b)) = some b := (rfl)
noncomputable def dAnd (a b : D) : D := fun e μ => (a e μ).bind fun x μ1 => (R.lift (asB x) μ1).bind fun k μ1 => if k = true then b e μ1 else .ok (.val (.bl false)) μ1
noncomputable def dOr (a b : D) : D := fun e μ => (a e μ).bind fun x μ1 => (R.lift (asB x) μ1).bind fun k μ1 => if k = true then .ok (.val (.bl true)) μ1 else b e μ1
noncomputable def dNot (a : D) : D := fun e μ => (a e μ).bind fun x μ1 => (R.lift (asB x) μ1).bind fun k μ1 => .ok (.val (.bl (!k))) μ1
noncomputable def dIfx (c a b : D) : D := fun e μ => (c e μ).bind fun x μ1 => (R.lift (asB x) μ1).bind fun k μ1 => if k = true then a e μ1 else b e μ1
@[simp] theorem dAnd_is (a b : D) (e : Slots) (μ : Store) : dAnd a b e μ = (a e μ).bind fun x μ1 => (R.lift (asB x) μ1).bind fun k μ1 => if k = true then b e μ1 else .ok (.val (.bl false)) μ1 := (rfl)
@[simp] theorem dOr_is (a b : D) (e : Slots) (μ : Store) : dOr a b e μ = (a e μ).bind fun x μ1 => (R.lift (asB x) μ1).bind fun k μ1 => if k = true then .ok (.val (.bl true)) μ1 else b e μ1 := (rfl)
@[simp] theorem dNot_is (a : D) (e : Slots) (μ : Store) : dNot a e μ = (a e μ).bind fun x μ1 => (R.lift (asB x) μ1).bind fun k μ1 => .ok (.val (.bl (!k))) μ1 := (rfl)
@[simp] theorem dIfx_is (c a b : D) (e : Slots) (μ : Store) : dIfx c a b e μ = (c e μ).bind fun x μ1 => (R.lift (asB x) μ1).bind fun k μ1 => if k = true then a e μ1 else b e μ1 := (rfl)
noncomputable def dArgs : List D → Slots → Store → R (List SV)
 | [], _, μ => .ok [] μ
 | d :: ds, e, μ => (d e μ).bind fun x μ1 => (dArgs ds e μ1).bind fun xs μ2 => .ok (x :: xs) μ2
@[simp] theorem dArgs_nil (e : Slots) (μ : Store) : dArgs [] e μ = .ok [] μ := (rfl)
@[simp] theorem dArgs_cons (d : D) (ds : List D) (e : Slots) (μ : Store) : dArgs (d :: ds) e μ = (d e μ).bind fun x μ1 => (dArgs ds e μ1).bind fun xs μ2 => .ok (x :: xs) μ2 := (rfl)
noncomputable def dTup (ds : List D) : D := fun e μ => (dArgs ds e μ).bind fun xs μ1 => (frzs xs μ1).bind fun ts μ2 => .ok (.val (.tup ts)) μ2
noncomputable def dLst (ds : List D) : D := fun e μ => (dArgs ds e μ).bind fun xs μ1 => (frzs xs μ1).bind fun ts μ2 => .ok (.val (.lst ts)) μ2
@[simp] theorem dTup_is (ds : List D) (e : Slots) (μ : Store) : dTup ds e μ = (dArgs ds e μ).bind fun xs μ1 => (frzs xs μ1).bind fun ts μ2 => .ok (.val (.tup ts)) μ2 := (rfl)
@[simp] theorem dLst_is (ds : List D) (e : Slots) (μ : Store) : dLst ds e μ = (dArgs ds e μ).bind fun xs μ1 => (frzs xs μ1).bind fun ts μ2 => .ok (.val (.lst ts)) μ2 := (rfl)
noncomputable def boxed : List SV → Option (List (Sum T Nat))
 | [] => some []
 | .val t :: xs => (boxed xs).map fun ys => .inl t :: ys
 | .cel k :: xs => (boxed xs).map fun ys => .inr k :: ys
 | .box _ :: _ => none
noncomputable def dBox (ds : List D) : D := fun e μ => (dArgs ds e μ).bind fun xs μ1 => (R.lift (boxed xs) μ1).bind fun ys μ1 => .ok (.box ys) μ1
@[simp] theorem dBox_is (ds : List D) (e : Slots) (μ : Store) : dBox ds e μ = (dArgs ds e μ).bind fun xs μ1 => (R.lift (boxed xs) μ1).bind fun ys μ1 => .ok (.box ys) μ1 := (rfl)
noncomputable def cell (t : T) (μ : Store) : R SV := .ok (.cel μ.length) (μ ++ [(true, t)])
noncomputable def dCell (d : D) : D := fun e μ => (d e μ).bind fun x μ1 => match x with
 | .val t => cell t μ1
 | .cel k => .ok (.cel k) μ1
 | .box xs => .ok (.box xs) μ1
noncomputable def toCell (x : SV) (μ : Store) : R SV := match x with
 | .val t => cell t μ
 | .cel k => .ok (.cel k) μ
 | .box xs => .ok (.box xs) μ
@[simp] theorem toCell_val (t : T) (μ : Store) : toCell (.val t) μ = .ok (.cel μ.length) (μ ++ [(true, t)]) := (rfl)
@[simp] theorem dCell_is (d : D) (e : Slots) (μ : Store) : dCell d e μ = (d e μ).bind toCell := by
 unfold dCell toCell; rfl
noncomputable abbrev FN := List SV → Store → R SV
noncomputable def dCall (f : FN) (ds : List D) : D := fun e μ => (dArgs ds e μ).bind fun xs μ1 => f xs μ1
@[simp] theorem dCall_is (f : FN) (ds : List D) (e : Slots) (μ : Store) : dCall f ds e μ = (dArgs ds e μ).bind fun xs μ1 => f xs μ1 := (rfl)
noncomputable def cal (f : FN) : FN := fun xs μ => (f xs μ).calm
@[simp] theorem cal_is (f : FN) (xs : List SV) (μ : Store) : cal f xs μ = (f xs μ).calm := (rfl)
noncomputable def ixN (n : Nat) (i : Int) : Option Nat := if 0 ≤ i then (if i < n then some i.toNat else none) else if -(n : Int) ≤ i then some (i + n).toNat else none
noncomputable def atI {α : Type} (xs : List α) (i : Int) : Option α := (ixN xs.length i).bind fun j => xs[j]?
noncomputable def sIx (n d : Nat) : Option Int → Nat
 | none => d
 | some v => if v < 0 then (v + (n : Int)).toNat else min v.toNat n
noncomputable def fAdd : T → T → Option T
 | .int i, .int j => some (.int (i + j))
 | .str x, .str y => if x.length + y.length ≤ szL then some (.str (x ++ y)) else none
 | .tup xs, .tup ys => if xs.length + ys.length ≤ szL then some (.tup (xs ++ ys)) else none
 | .lst xs, .lst ys => if xs.length + ys.length ≤ szL then some (.lst (xs ++ ys)) else none
 | _, _ => none
theorem fAdd_str (x y : Str) (h : x.length + y.length ≤ szL) : fAdd (.str x) (.str y) = some (.str (x ++ y)) := if_pos h
@[simp] theorem fAdd_int (i j : Int) : fAdd (.int i) (.int j) = some (.int (i + j)) := (rfl)
noncomputable def fSub : T → T → Option T
 | .int i, .int j => some (.int (i - j))
 | _, _ => none
@[simp] theorem fSub_int (i j : Int) : fSub (.int i) (.int j) = some (.int (i - j)) := (rfl)
noncomputable def fMul : T → T → Option T
 | .int i, .int j => if (-(2 ^ 64) < i ∧ i < 2 ^ 64) ∨ (-(2 ^ 64) < j ∧ j < 2 ^ 64) then some (.int (i * j)) else none
 | _, _ => none
noncomputable def fMulA (t u : T) : Option T := fMul t u
theorem fMul_l (i j : Int) (h1 : -18446744073709551616 < i) (h2 : i < 18446744073709551616) : fMul (.int i) (.int j) = some (.int (i * j)) := if_pos (.inl ⟨h1, h2⟩)
theorem fMul_r (i j : Int) (h1 : -18446744073709551616 < j) (h2 : j < 18446744073709551616) : fMul (.int i) (.int j) = some (.int (i * j)) := if_pos (.inr ⟨h1, h2⟩)
@[simp] theorem fMulA_l (i j : Int) (h1 : -18446744073709551616 < i) (h2 : i < 18446744073709551616) : fMulA (.int i) (.int j) = some (.int (i * j)) := fMul_l i j h1 h2
@[simp] theorem fMulA_r (i j : Int) (h1 : -18446744073709551616 < j) (h2 : j < 18446744073709551616) : fMulA (.int i) (.int j) = some (.int (i * j)) := fMul_r i j h1 h2
noncomputable def fMod : T → T → Option T
 | .int i, .int j => if 0 < j then some (.int (i % j)) else none
 | _, _ => none
@[simp] theorem fMod_int (i j : Int) (h : 0 < j) : fMod (.int i) (.int j) = some (.int (i % j)) := if_pos h
noncomputable def fDiv : T → T → Option T
 | .int i, .int j => if 0 < j ∧ j < 1073741824 then some (.int (i / j)) else none
 | _, _ => none
@[simp] theorem fDiv_int (i j : Int) (h : 0 < j) (h2 : j < 1073741824) : fDiv (.int i) (.int j) = some (.int (i / j)) := if_pos ⟨h, h2⟩
noncomputable def fShr : T → T → Option T
 | .int i, .int j => if 0 ≤ j ∧ j ≤ 64 then some (.int (i / 2 ^ j.toNat)) else none
 | _, _ => none
noncomputable def fNeg : T → Option T
 | .int i => some (.int (-i))
 | _ => none
@[simp] theorem fNeg_int (i : Int) : fNeg (.int i) = some (.int (-i)) := (rfl)
noncomputable def fLt : T → T → Option T
 | .int i, .int j => some (.bl (decide (i < j)))
 | _, _ => none
noncomputable def fLe : T → T → Option T
 | .int i, .int j => some (.bl (decide (i ≤ j)))
 | _, _ => none
noncomputable def fGt : T → T → Option T
 | .int i, .int j => some (.bl (decide (j < i)))
 | _, _ => none
noncomputable def fGe : T → T → Option T
 | .int i, .int j => some (.bl (decide (j ≤ i)))
 | _, _ => none
@[simp] theorem fLt_int (i j : Int) : fLt (.int i) (.int j) = some (.bl (decide (i < j))) := (rfl)
@[simp] theorem fLe_int (i j : Int) : fLe (.int i) (.int j) = some (.bl (decide (i ≤ j))) := (rfl)
@[simp] theorem fGt_int (i j : Int) : fGt (.int i) (.int j) = some (.bl (decide (j < i))) := (rfl)
@[simp] theorem fGe_int (i j : Int) : fGe (.int i) (.int j) = some (.bl (decide (j ≤ i))) := (rfl)
mutual
noncomputable def eqT : T → T → Bool
 | .non, .non => true
 | .bl a, .bl b => a == b
 | .bl a, .int b => (if a then 1 else 0) == b
 | .int a, .bl b => a == (if b then 1 else 0)
 | .int a, .int b => a == b
 | .str a, .str b => a == b
 | .lst a, .lst b => eqTs a b
 | .tup a, .tup b => eqTs a b
 | _, _ => false
noncomputable def eqTs : List T → List T → Bool
 | [], [] => true
 | a :: as, b :: bs => eqT a b && eqTs as bs
 | [], _ :: _ => false
 | _ :: _, [] => false
end
mutual
noncomputable def okT : Nat → T → Bool
 | _, .non => true
 | _, .bl _ => true
 | _, .int _ => true
 | _, .str x => x.cps.all (· < 1114112)
 | 0, .lst _ => false
 | n + 1, .lst ts => okTs n ts
 | 0, .tup _ => false
 | n + 1, .tup ts => okTs n ts
 | _, .dct _ => false
 | _, .exc _ _ => false
noncomputable def okTs : Nat → List T → Bool
 | _, [] => true
 | n, t :: ts => okT n t && okTs n ts
end
noncomputable def fEq (t u : T) : Option T := match t, u with
 | .str a, .str b => some (.bl (a == b))
 | t, u => if okT 100 t = true ∧ okT 100 u = true then some (.bl (eqT t u)) else none
noncomputable def fNe (t u : T) : Option T := match t, u with
 | .str a, .str b => some (.bl (!(a == b)))
 | t, u => if okT 100 t = true ∧ okT 100 u = true then some (.bl (!eqT t u)) else none
@[simp] theorem okT_int (n : Nat) (i : Int) : okT n (.int i) = true := by unfold okT; rfl
@[simp] theorem okT_bl (n : Nat) (i : Bool) : okT n (.bl i) = true := by unfold okT; rfl
@[simp] theorem okT_lst (n : Nat) (ts : List T) : okT (n + 1) (.lst ts) = okTs n ts := by rw [okT]
@[simp] theorem okTs_nil (n : Nat) : okTs n [] = true := by rw [okTs]
@[simp] theorem okTs_cons (n : Nat) (t : T) (ts : List T) : okTs n (t :: ts) = (okT n t && okTs n ts) := by rw [okTs]
theorem okTs_iff (n : Nat) : ∀ ts : List T, okTs n ts = true ↔ ∀ t ∈ ts, okT n t = true
 | [] => by simp
 | t :: ts => by simp [okTs_iff n ts]
@[simp] theorem okTs_ints (n : Nat) (ns : List Int) : okTs n (ns.map T.int) = true := by
 rw [okTs_iff]
 intro t ht
 obtain ⟨i, _, rfl⟩ := List.mem_map.mp ht
 simp
@[simp] theorem eqT_int (i j : Int) : eqT (.int i) (.int j) = (i == j) := by rw [eqT]
@[simp] theorem eqT_str (i j : Str) : eqT (.str i) (.str j) = (i == j) := by rw [eqT]
@[simp] theorem eqT_bl (i j : Bool) : eqT (.bl i) (.bl j) = (i == j) := by rw [eqT]
@[simp] theorem eqT_lst (i j : List T) : eqT (.lst i) (.lst j) = eqTs i j := by rw [eqT]
@[simp] theorem eqTs_nil : eqTs [] [] = true := by rw [eqTs]
@[simp] theorem eqTs_cons (a b : T) (as bs : List T) : eqTs (a :: as) (b :: bs) = (eqT a b && eqTs as bs) := by rw [eqTs]
@[simp] theorem eqTs_nc (b : T) (bs : List T) : eqTs [] (b :: bs) = false := by rw [eqTs]
@[simp] theorem eqTs_cn (b : T) (bs : List T) : eqTs (b :: bs) [] = false := by rw [eqTs]
theorem eqTs_ints : ∀ (xs ys : List Int), eqTs (xs.map T.int) (ys.map T.int) = (xs == ys)
 | [], [] => by simp
 | [], y :: ys => by simp
 | x :: xs, [] => by simp
 | x :: xs, y :: ys => by simp [eqTs_ints xs ys]
theorem fEq_ok {t u : T} (h1 : okT 100 t = true) (h2 : okT 100 u = true) : fEq t u = some (.bl (eqT t u)) := by
 unfold fEq
 split
 ·simp
 ·rw [if_pos ⟨h1, h2⟩]
theorem fNe_ok {t u : T} (h1 : okT 100 t = true) (h2 : okT 100 u = true) : fNe t u = some (.bl (!eqT t u)) := by
 unfold fNe
 split
 ·simp
 ·rw [if_pos ⟨h1, h2⟩]
@[simp] theorem fEq_int (i j : Int) : fEq (.int i) (.int j) = some (.bl (i == j)) := by rw [fEq_ok (by simp) (by simp)]; simp
@[simp] theorem fNe_int (i j : Int) : fNe (.int i) (.int j) = some (.bl (!(i == j))) := by rw [fNe_ok (by simp) (by simp)]; simp
@[simp] theorem fEq_str (i j : Str) : fEq (.str i) (.str j) = some (.bl (i == j)) := (rfl)
@[simp] theorem fNe_str (i j : Str) : fNe (.str i) (.str j) = some (.bl (!(i == j))) := (rfl)
@[simp] theorem fNe_bl (i j : Bool) : fNe (.bl i) (.bl j) = some (.bl (!(i == j))) := by rw [fNe_ok (by simp) (by simp)]; simp
@[simp] theorem fEq_ints (xs ys : List Int) : fEq (.lst (xs.map T.int)) (.lst (ys.map T.int)) = some (.bl (xs == ys)) := by rw [fEq_ok (by simp) (by simp)]; simp [eqTs_ints]
@[simp] theorem fNe_ints (xs ys : List Int) : fNe (.lst (xs.map T.int)) (.lst (ys.map T.int)) = some (.bl (!(xs == ys))) := by rw [fNe_ok (by simp) (by simp)]; simp [eqTs_ints]
noncomputable def isNon : T → Option T
 | .non => some (.bl true)
 | _ => some (.bl false)
noncomputable def fIdx : T → T → Option T
 | .lst xs, .int i => atI xs i
 | .tup xs, .int i => atI xs i
 | .str x, .int i => if x.length ≤ szL then (atI x.cps.toList i).map fun c => .str ⟨#[c]⟩ else none
 | _, _ => none
@[simp] theorem fIdx_lst (xs : List T) (i : Int) : fIdx (.lst xs) (.int i) = atI xs i := (rfl)
noncomputable def pick : Sum T Nat → SV
 | .inl t => .val t
 | .inr k => .cel k
noncomputable def idxS (μ : Store) (x : SV) (u : T) : Option SV := match x, u with
 | .box xs, .int i => (atI xs i).map pick
 | .box _, _ => none
 | x, u => ap1 (fun t => fIdx t u) (rd μ x)
noncomputable def dIdx (a b : D) : D := fun e μ => (a e μ).bind fun x μ1 => (b e μ1).bind fun y μ2 => R.lift ((rd μ2 y).bind fun u => idxS μ2 x u) μ2
@[simp] theorem dIdx_is (a b : D) (e : Slots) (μ : Store) : dIdx a b e μ = (a e μ).bind fun x μ1 => (b e μ1).bind fun y μ2 => R.lift ((rd μ2 y).bind fun u => idxS μ2 x u) μ2 := (rfl)
@[simp] theorem idxS_lst (μ : Store) (xs : List T) (i : Int) : idxS μ (.val (.lst xs)) (.int i) = (atI xs i).map SV.val := (rfl)
@[simp] theorem idxS_tup (μ : Store) (xs : List T) (i : Int) : idxS μ (.val (.tup xs)) (.int i) = (atI xs i).map SV.val := (rfl)
@[simp] theorem idxS_box (μ : Store) (xs : List (Sum T Nat)) (i : Int) : idxS μ (.box xs) (.int i) = (atI xs i).map pick := (rfl)
@[simp] theorem idxS_cel (μ : Store) (k : Nat) (u : T) : idxS μ (.cel k) u = ap1 (fun t => fIdx t u) (rd μ (.cel k)) := (rfl)
noncomputable def fLen : T → Option T
 | .lst xs => some (.int xs.length)
 | .tup xs => some (.int xs.length)
 | .str x => if x.length ≤ szL then some (.int x.length) else none
 | .dct kts => some (.int kts.length)
 | _ => none
noncomputable def lenS (μ : Store) : SV → Option T
 | .box xs => some (.int xs.length)
 | x => (rd μ x).bind fLen
noncomputable def dLen (a : D) : D := fun e μ => (a e μ).bind fun x μ1 => R.lift ((lenS μ1 x).map SV.val) μ1
@[simp] theorem dLen_is (a : D) (e : Slots) (μ : Store) : dLen a e μ = (a e μ).bind fun x μ1 => R.lift ((lenS μ1 x).map SV.val) μ1 := (rfl)
@[simp] theorem lenS_lst (μ : Store) (xs : List T) : lenS μ (.val (.lst xs)) = some (.int xs.length) := (rfl)
@[simp] theorem lenS_tup (μ : Store) (xs : List T) : lenS μ (.val (.tup xs)) = some (.int xs.length) := (rfl)
inductive Kd where
 | int | bool | str | list | tuple | dict
noncomputable def isK : Kd → T → Bool
 | .int, .int _ => true
 | .int, .bl _ => true
 | .bool, .bl _ => true
 | .str, .str _ => true
 | .list, .lst _ => true
 | .tuple, .tup _ => true
 | .dict, .dct _ => true
 | _, _ => false
noncomputable def isT (k : Kd) : T → Option T
 | .exc _ _ => none
 | t => some (.bl (isK k t))
noncomputable def isS (k : Kd) (μ : Store) : SV → Option T
 | .box _ => some (.bl (isK k (.tup [])))
 | x => (rd μ x).bind (isT k)
noncomputable def dIs (k : Kd) (a : D) : D := fun e μ => (a e μ).bind fun x μ1 => R.lift ((isS k μ1 x).map SV.val) μ1
@[simp] theorem dIs_is (k : Kd) (a : D) (e : Slots) (μ : Store) : dIs k a e μ = (a e μ).bind fun x μ1 => R.lift ((isS k μ1 x).map SV.val) μ1 := (rfl)
@[simp] theorem isS_cel (k : Kd) (μ : Store) (j : Nat) : isS k μ (.cel j) = (rd μ (.cel j)).bind (isT k) := (rfl)
noncomputable def fTuple : T → Option T
 | .lst xs => some (.tup xs)
 | .tup xs => some (.tup xs)
 | _ => none
@[simp] theorem fTuple_lst (xs : List T) : fTuple (.lst xs) = some (.tup xs) := (rfl)
@[simp] theorem fTuple_tup (xs : List T) : fTuple (.tup xs) = some (.tup xs) := (rfl)
noncomputable def fList : T → Option T
 | .lst xs => some (.lst xs)
 | .tup xs => some (.lst xs)
 | _ => none
noncomputable def keyT : Key → T
 | .inl i => .int i
 | .inr x => .str x
@[simp] theorem fList_lst (xs : List T) : fList (.lst xs) = some (.lst xs) := (rfl)
noncomputable def cutT {α : Type} (xs : List α) (lo hi : Option Int) : List α := (xs.drop (sIx xs.length 0 lo)).take (sIx xs.length xs.length hi - sIx xs.length 0 lo)
noncomputable def asInt : T → Option Int
 | .int i => some i
 | _ => none
@[simp] theorem asInt_int (i : Int) : asInt (.int i) = some i := (rfl)
noncomputable def asInts : List T → Option (List Int)
 | [] => some []
 | t :: ts => (asInt t).bind fun i => (asInts ts).map fun is => i :: is
theorem asInts_map (ns : List Int) : asInts (ns.map T.int) = some ns := by
 induction ns with
 | nil => rfl
 | cons n ns ih => simp [asInts, ih]
noncomputable def notNon : T → Option T
 | .non => some (.bl false)
 | _ => some (.bl true)
@[simp] theorem notNon_non : notNon .non = some (.bl false) := (rfl)
@[simp] theorem notNon_int (i : Int) : notNon (.int i) = some (.bl true) := (rfl)
noncomputable def fCut (t : T) (lo hi : Option Int) : Option T := match t with
 | .lst xs => some (.lst (cutT xs lo hi))
 | .tup xs => if sIx xs.length 0 lo = 0 ∧ sIx xs.length xs.length hi = xs.length then none else some (.tup (cutT xs lo hi))
 | _ => none
noncomputable def dOpt (o : Option D) (e : Slots) (μ : Store) : R (Option Int) := match o with
 | none => .ok none μ
 | some d => (d e μ).bind fun x μ1 => (R.lift ((rd μ1 x).bind asInt) μ1).bind fun i μ1 => .ok (some i) μ1
@[simp] theorem dOpt_none (e : Slots) (μ : Store) : dOpt none e μ = .ok none μ := (rfl)
@[simp] theorem dOpt_some (d : D) (e : Slots) (μ : Store) : dOpt (some d) e μ = (d e μ).bind fun x μ1 => (R.lift ((rd μ1 x).bind asInt) μ1).bind fun i μ1 => .ok (some i) μ1 := (rfl)
noncomputable def dCut (a : D) (lo hi : Option D) : D := fun e μ => (a e μ).bind fun x μ1 => (dOpt lo e μ1).bind fun l μ2 => (dOpt hi e μ2).bind fun h μ3 => R.lift (ap1 (fun t => fCut t l h) (rd μ3 x)) μ3
@[simp] theorem dCut_is (a : D) (lo hi : Option D) (e : Slots) (μ : Store) : dCut a lo hi e μ = (a e μ).bind fun x μ1 => (dOpt lo e μ1).bind fun l μ2 => (dOpt hi e μ2).bind fun h μ3 => R.lift (ap1 (fun t => fCut t l h) (rd μ3 x)) μ3 := (rfl)
inductive RS where
 | nx (e : Slots) (μ : Store) | rt (x : SV) (μ : Store) | bk (e : Slots) (μ : Store) | ct (e : Slots) (μ : Store) | err (c : T) (e : Slots) (μ : Store) | bad
noncomputable abbrev DS := Slots → Store → RS
noncomputable def R.toS {α : Type} (x : R α) (e : Slots) (f : α → Store → RS) : RS := match x with
 | .ok a μ => f a μ
 | .err c μ => .err c e μ
 | .bad => .bad
@[simp] theorem R.toS_ok {α : Type} (a : α) (e : Slots) (μ : Store) (f : α → Store → RS) : (R.ok a μ).toS e f = f a μ := (rfl)
noncomputable def RS.seq (r : RS) (f : Slots → Store → RS) : RS := match r with
 | .nx e μ => f e μ
 | r => r
@[simp] theorem RS.seq_nx (e : Slots) (μ : Store) (f : Slots → Store → RS) : (RS.nx e μ).seq f = f e μ := (rfl)
@[simp] theorem RS.seq_rt (x : SV) (μ : Store) (f : Slots → Store → RS) : (RS.rt x μ).seq f = .rt x μ := (rfl)
noncomputable def sNil : DS := fun e μ => .nx e μ
noncomputable def sSeq (a b : DS) : DS := fun e μ => (a e μ).seq b
noncomputable def sExpr (d : D) : DS := fun e μ => (d e μ).toS e fun _ μ1 => .nx e μ1
noncomputable def sSet (i : Nat) (d : D) : DS := fun e μ => (d e μ).toS e fun x μ1 => .nx (e.set i (some x)) μ1
noncomputable def sRet (d : D) : DS := fun e μ => (d e μ).toS e fun x μ1 => .rt x μ1
noncomputable def sIf (c : D) (a b : DS) : DS := fun e μ => (c e μ).toS e fun x μ1 => (R.lift (asB x) μ1).toS e fun k μ1 => if k = true then a e μ1 else b e μ1
@[simp] theorem sNil_is (e : Slots) (μ : Store) : sNil e μ = .nx e μ := (rfl)
@[simp] theorem sSeq_is (a b : DS) (e : Slots) (μ : Store) : sSeq a b e μ = (a e μ).seq b := (rfl)
@[simp] theorem sExpr_is (d : D) (e : Slots) (μ : Store) : sExpr d e μ = (d e μ).toS e fun _ μ1 => .nx e μ1 := (rfl)
@[simp] theorem sSet_is (i : Nat) (d : D) (e : Slots) (μ : Store) : sSet i d e μ = (d e μ).toS e fun x μ1 => .nx (e.set i (some x)) μ1 := (rfl)
@[simp] theorem sRet_is (d : D) (e : Slots) (μ : Store) : sRet d e μ = (d e μ).toS e fun x μ1 => .rt x μ1 := (rfl)
@[simp] theorem sIf_is (c : D) (a b : DS) (e : Slots) (μ : Store) : sIf c a b e μ = (c e μ).toS e fun x μ1 => (R.lift (asB x) μ1).toS e fun k μ1 => if k = true then a e μ1 else b e μ1 := (rfl)
noncomputable def appendAt (x : SV) (t : T) (μ : Store) : Option Store := match x with
 | .cel k => match μ[k]? with
  | some (true, .lst ts) => if ts.length < szL then some (μ.set k (true, .lst (ts ++ [t]))) else none
  | _ => none
 | _ => none
noncomputable def lsts (x : SV) (μ : Store) : Option Unit := match x with
 | .cel k => match μ[k]? with
  | some (_, .lst _) => some ()
  | _ => none
 | _ => none
theorem lsts_at {μ : Store} {k : Nat} {b : Bool} {ts : List T} (h : μ[k]? = some (b, .lst ts)) : lsts (.cel k) μ = some () := by unfold lsts; simp only [h]
noncomputable def sAppend (o d : D) : DS := fun e μ => (o e μ).toS e fun x μ0 => (R.lift (lsts x μ0) μ0).toS e fun _ μ0 => (d e μ0).toS e fun y μ1 => (frz y μ1).toS e fun t μ2 => (R.lift (appendAt x t μ2) μ2).toS e fun μ3 _ => .nx e μ3
@[simp] theorem sAppend_is (o d : D) (e : Slots) (μ : Store) : sAppend o d e μ = (o e μ).toS e fun x μ0 => (R.lift (lsts x μ0) μ0).toS e fun _ μ0 => (d e μ0).toS e fun y μ1 => (frz y μ1).toS e fun t μ2 => (R.lift (appendAt x t μ2) μ2).toS e fun μ3 _ => .nx e μ3 := (rfl)
noncomputable def setAt (x : SV) (k : T) (t : T) (μ : Store) : Option Store := match x, k with
 | .cel c, .int i => match μ[c]? with
  | some (true, .lst ts) => (ixN ts.length i).map fun j => μ.set c (true, .lst (ts.set j t))
  | _ => none
 | _, _ => none
noncomputable def sSetItem (i : Nat) (dk dv : D) : DS := fun e μ => (dv e μ).toS e fun y μ1 => (R.lift (slot e i) μ1).toS e fun x μ1 => (dk e μ1).toS e fun z μ2 => (R.lift (rd μ2 z) μ2).toS e fun k μ2 =>
 (frz y μ2).toS e fun t μ3 => (R.lift (setAt x k t μ3) μ3).toS e fun μ4 _ => .nx e μ4
@[simp] theorem sSetItem_is (i : Nat) (dk dv : D) (e : Slots) (μ : Store) : sSetItem i dk dv e μ = (dv e μ).toS e fun y μ1 => (R.lift (slot e i) μ1).toS e fun x μ1 => (dk e μ1).toS e fun z μ2 => (R.lift (rd μ2 z) μ2).toS e fun k μ2 =>
 (frz y μ2).toS e fun t μ3 => (R.lift (setAt x k t μ3) μ3).toS e fun μ4 _ => .nx e μ4 := (rfl)
structure Wk where
 items : List T
 same : Store → Prop
noncomputable abbrev DI := Slots → Store → R Wk
noncomputable def seqItems : T → Option (List T)
 | .lst ts => some ts
 | .tup ts => some ts
 | _ => none
@[simp] theorem seqItems_lst (ts : List T) : seqItems (.lst ts) = some ts := (rfl)
@[simp] theorem seqItems_tup (ts : List T) : seqItems (.tup ts) = some ts := (rfl)
noncomputable def iSeq (d : D) : DI := fun e μ => (d e μ).bind fun x μ1 => (R.lift ((rd μ1 x).bind seqItems) μ1).bind fun ts μ1 => .ok ⟨ts, fun μ' => rd μ' x = rd μ1 x⟩ μ1
@[simp] theorem iSeq_is (d : D) (e : Slots) (μ : Store) : iSeq d e μ = (d e μ).bind fun x μ1 => (R.lift ((rd μ1 x).bind seqItems) μ1).bind fun ts μ1 => .ok ⟨ts, fun μ' => rd μ' x = rd μ1 x⟩ μ1 := (rfl)
noncomputable def intsT (lo : Int) : Nat → List T
 | 0 => []
 | n + 1 => .int lo :: intsT (lo + 1) n
noncomputable def rngOk (j : Int) : Bool := decide (-(2 ^ 62) ≤ j) && decide (j < 2 ^ 62)
@[simp] theorem rngOk_of {j : Int} (h0 : 0 ≤ j) (h1 : j ≤ 1000000) : rngOk j = true := by
 unfold rngOk
 rw [decide_eq_true (by lia), decide_eq_true (by lia)]; rfl
theorem rngOk_iff {j : Int} (h : rngOk j = true) : -(2 ^ 62) ≤ j ∧ j < 2 ^ 62 := by
 unfold rngOk at h
 simp only [Bool.and_eq_true, decide_eq_true_eq] at h
 exact h
noncomputable def iRange1 (d : D) : DI := fun e μ => (d e μ).bind fun x μ1 => (R.lift ((rd μ1 x).bind asInt) μ1).bind fun j μ1 => if rngOk j = true then .ok ⟨intsT 0 j.toNat, fun _ => True⟩ μ1 else .bad
noncomputable def iRange2 (d d' : D) : DI := fun e μ => (d e μ).bind fun x μ1 => (d' e μ1).bind fun y μ2 => (R.lift ((rd μ2 x).bind asInt) μ2).bind fun i μ2 => (R.lift ((rd μ2 y).bind asInt) μ2).bind fun j μ2 =>
 if (rngOk i && rngOk j) = true then .ok ⟨intsT i (j - i).toNat, fun _ => True⟩ μ2 else .bad
@[simp] theorem iRange1_is (d : D) (e : Slots) (μ : Store) : iRange1 d e μ = (d e μ).bind fun x μ1 => (R.lift ((rd μ1 x).bind asInt) μ1).bind fun j μ1 => if rngOk j = true then .ok ⟨intsT 0 j.toNat, fun _ => True⟩ μ1 else .bad := (rfl)
@[simp] theorem iRange2_is (d d' : D) (e : Slots) (μ : Store) : iRange2 d d' e μ = (d e μ).bind fun x μ1 => (d' e μ1).bind fun y μ2 => (R.lift ((rd μ2 x).bind asInt) μ2).bind fun i μ2 => (R.lift ((rd μ2 y).bind asInt) μ2).bind fun j μ2 =>
 if (rngOk i && rngOk j) = true then .ok ⟨intsT i (j - i).toNat, fun _ => True⟩ μ2 else .bad := (rfl)
noncomputable def zipT : List T → List T → List T
 | t :: ts, u :: us => .tup [t, u] :: zipT ts us
 | _, _ => []
noncomputable def iZip (d d' : D) : DI := fun e μ => (d e μ).bind fun x μ1 => (d' e μ1).bind fun y μ2 => (R.lift ((rd μ2 x).bind seqItems) μ2).bind fun ts μ2 => (R.lift ((rd μ2 y).bind seqItems) μ2).bind fun us μ2 =>
 .ok ⟨zipT ts us, fun μ' => rd μ' x = rd μ2 x ∧ rd μ' y = rd μ2 y⟩ μ2
@[simp] theorem iZip_is (d d' : D) (e : Slots) (μ : Store) : iZip d d' e μ = (d e μ).bind fun x μ1 => (d' e μ1).bind fun y μ2 => (R.lift ((rd μ2 x).bind seqItems) μ2).bind fun ts μ2 => (R.lift ((rd μ2 y).bind seqItems) μ2).bind fun us μ2 =>
 .ok ⟨zipT ts us, fun μ' => rd μ' x = rd μ2 x ∧ rd μ' y = rd μ2 y⟩ μ2 := (rfl)
noncomputable abbrev BD := T → Slots → Option Slots
noncomputable def bName (i : Nat) : BD := fun t e => some (e.set i (some (.val t)))
noncomputable def bTup (is : List Nat) : BD := fun t e => match t with
 | .tup ts => if ts.length = is.length then some ((is.zip ts).foldl (fun e p => e.set p.1 (some (.val p.2))) e) else none
 | _ => none
@[simp] theorem bName_is (i : Nat) (t : T) (e : Slots) : bName i t e = some (e.set i (some (.val t))) := (rfl)
@[simp] theorem bTup_pair (i j : Nat) (t u : T) (e : Slots) : bTup [i, j] (.tup [t, u]) e = some ((e.set i (some (.val t))).set j (some (.val u))) := (rfl)
open Classical in
noncomputable def forL (same : Store → Prop) (b : BD) (body : DS) : List T → Slots → Store → RS
 | [], e, μ => if same μ then .nx e μ else .bad
 | t :: ts, e, μ => if same μ then
   match b t e with
   | none => .bad
   | some e1 => match body e1 μ with
    | .nx e2 μ2 => forL same b body ts e2 μ2
    | .ct e2 μ2 => forL same b body ts e2 μ2
    | .bk e2 μ2 => .nx e2 μ2
    | r => r
  else .bad
noncomputable def sFor (it : DI) (b : BD) (body : DS) : DS := fun e μ => (it e μ).toS e fun W μ1 => forL W.same b body W.items e μ1
@[simp] theorem sFor_is (it : DI) (b : BD) (body : DS) (e : Slots) (μ : Store) : sFor it b body e μ = (it e μ).toS e fun W μ1 => forL W.same b body W.items e μ1 := (rfl)
open Classical in
noncomputable def compL (same : Store → Prop) (b : BD) (c : D) (d : D) (e : Slots) : List T → Store → R (List T)
 | [], μ => if same μ then .ok [] μ else .bad
 | t :: ts, μ => if same μ then
   match b t e with
   | none => .bad
   | some e1 => (c e1 μ).calm.bind fun x μ1 => (R.lift (asB x) μ1).bind fun k μ1 =>
    if k = true then (d e1 μ1).calm.bind fun y μ2 => (frz y μ2).bind fun u μ3 => (compL same b c d e ts μ3).bind fun us μ4 => .ok (u :: us) μ4
    else compL same b c d e ts μ1
  else .bad
noncomputable def ini (mp : List (Option Nat)) (e : Slots) : Slots := mp.map fun o => o.bind fun j => slot e j
noncomputable def dComp (it : DI) (mp : List (Option Nat)) (b : BD) (c : D) (d : D) : D := fun e μ => (it e μ).bind fun W μ1 => (compL W.same b c d (ini mp e) W.items μ1).calm.bind fun us μ2 =>
 if W.items.length ≤ szL then .ok (.val (.lst us)) μ2 else .bad
@[simp] theorem dComp_is (it : DI) (mp : List (Option Nat)) (b : BD) (c : D) (d : D) (e : Slots) (μ : Store) : dComp it mp b c d e μ = (it e μ).bind fun W μ1 => (compL W.same b c d (ini mp e) W.items μ1).calm.bind fun us μ2 =>
 if W.items.length ≤ szL then .ok (.val (.lst us)) μ2 else .bad := (rfl)
@[simp] theorem ini_nil (e : Slots) : ini [] e = [] := (rfl)
@[simp] theorem ini_none (mp : List (Option Nat)) (e : Slots) : ini (none :: mp) e = none :: ini mp e := (rfl)
@[simp] theorem ini_some (j : Nat) (mp : List (Option Nat)) (e : Slots) : ini (some j :: mp) e = slot e j :: ini mp e := (rfl)
noncomputable def gc (n : Nat) (x : SV) (μ : Store) : R SV := match x with
 | .val t => .ok (.val t) (μ.take n)
 | .cel k => if k < n then .ok (.cel k) (μ.take n) else match μ[k]? with
  | some c => .ok (.cel n) (μ.take n ++ [c])
  | none => .bad
 | .box _ => .bad
noncomputable def starts (m : Nat) (xs : List SV) : Slots := xs.map some ++ List.replicate (m - xs.length) none
noncomputable def RS.endD (n : Nat) : RS → R SV
 | .rt x μ' => gc n x μ'
 | .nx _ μ' => gc n (.val .non) μ'
 | .err c _ μ' => .err c (μ'.take n)
 | _ => .bad
noncomputable def fnD (m : Nat) (body : DS) : FN := fun xs μ => (body (starts m xs) μ).endD μ.length
noncomputable def ice (n : Nat) (x : SV) (μ : Store) : R SV := (frz x μ).bind fun t μ1 => .ok (.val t) (μ1.take n)
noncomputable def RS.endV (n : Nat) : RS → R SV
 | .rt x μ' => ice n x μ'
 | .nx _ μ' => ice n (.val .non) μ'
 | .err c _ μ' => .err c (μ'.take n)
 | _ => .bad
noncomputable def fnV (m : Nat) (body : DS) : FN := fun xs μ => (body (starts m xs) μ).endV μ.length
noncomputable def RS.endK : RS → R SV
 | .rt x μ' => .ok x μ'
 | .nx _ μ' => .ok (.val .non) μ'
 | .err c _ μ' => .err c μ'
 | _ => .bad
noncomputable def fnK (m : Nat) (body : DS) : FN := fun xs μ => (body (starts m xs) μ).endK
@[simp] theorem endV_rt (n : Nat) (x : SV) (μ : Store) : (RS.rt x μ).endV n = ice n x μ := (rfl)
@[simp] theorem endD_rt (n : Nat) (x : SV) (μ : Store) : (RS.rt x μ).endD n = gc n x μ := (rfl)
@[simp] theorem endK_rt (x : SV) (μ : Store) : (RS.rt x μ).endK = .ok x μ := (rfl)
@[simp] theorem fnV_is (m : Nat) (body : DS) (xs : List SV) (μ : Store) : fnV m body xs μ = (body (starts m xs) μ).endV μ.length := (rfl)
@[simp] theorem fnD_is (m : Nat) (body : DS) (xs : List SV) (μ : Store) : fnD m body xs μ = (body (starts m xs) μ).endD μ.length := (rfl)
@[simp] theorem fnK_is (m : Nat) (body : DS) (xs : List SV) (μ : Store) : fnK m body xs μ = (body (starts m xs) μ).endK := (rfl)
end Fw
namespace Fw
open PySem L2
noncomputable def ExcAt (K : PySem.W.Frag) (a : Addr) (c : Str) (t : Option Str) (h : Heap) : Prop := ∃ C, PySem.W.nsIn K mainGlobals c = some (some (.ref C)) ∧ ExcCls a C h
section
variable (K : PySem.W.Frag) (F : Hp)
mutual
noncomputable def Rep : T → V → Prop
 | .non, v => v = .non
 | .bl b, v => v = .bl b
 | .int i, v => v = .int i
 | .str x, v => v = .str x
 | .lst ts, v => ∃ a vs, v = .ref a ∧ SqL K F a vs ∧ RepL ts vs
 | .tup ts, v => ∃ a vs, v = .ref a ∧ SqT K F a vs ∧ RepL ts vs
 | .dct kts, v => ∃ a kvs, v = .ref a ∧ F a = some (.dK kvs) ∧ RepD kts kvs
 | .exc c t, v => ∃ a, v = .ref a ∧ F a = some (.ext (ExcAt K a c t))
noncomputable def RepL : List T → List V → Prop
 | [], vs => vs = []
 | t :: ts, vs => ∃ v vs', vs = v :: vs' ∧ Rep t v ∧ RepL ts vs'
noncomputable def RepD : List (Key × T) → List (Key × V) → Prop
 | [], kvs => kvs = []
 | (k, t) :: kts, kvs => ∃ v kvs', kvs = (k, v) :: kvs' ∧ Rep t v ∧ RepD kts kvs'
end
end
theorem Same.seqT {K : PySem.W.Frag} {H H' : Hp} {a : Addr} {xs : List V} (e : Same H H') (h : SqT K H a xs) : SqT K H' a xs := by
 rcases h with (h | ⟨o, h⟩) | h
 ·exact .inl (.inl (e _ _ h))
 ·exact .inl (.inr ⟨o, e _ _ h⟩)
 ·exact .inr h
section
variable {K : PySem.W.Frag} {F F' H H' : Hp}
mutual
theorem Rep.mono (s : Same F F') : ∀ (t : T) (v : V), Rep K F t v → Rep K F' t v
 | .non, v, h => by rw [Rep] at h ⊢; exact h
 | .bl b, v, h => by rw [Rep] at h ⊢; exact h
 | .int i, v, h => by rw [Rep] at h ⊢; exact h
 | .str x, v, h => by rw [Rep] at h ⊢; exact h
 | .lst ts, v, h => by
  rw [Rep] at h ⊢
  obtain ⟨a, vs, e, q, r⟩ := h
  exact ⟨a, vs, e, s.seq q, RepL.mono s ts vs r⟩
 | .tup ts, v, h => by
  rw [Rep] at h ⊢
  obtain ⟨a, vs, e, q, r⟩ := h
  exact ⟨a, vs, e, Same.seqT s q, RepL.mono s ts vs r⟩
 | .dct kts, v, h => by
  rw [Rep] at h ⊢
  obtain ⟨a, vs, e, q, r⟩ := h
  exact ⟨a, vs, e, s _ _ q, RepD.mono s kts vs r⟩
 | .exc c t, v, h => by
  rw [Rep] at h ⊢
  obtain ⟨a, e, q⟩ := h
  exact ⟨a, e, s _ _ q⟩
theorem RepL.mono (s : Same F F') : ∀ (ts : List T) (vs : List V), RepL K F ts vs → RepL K F' ts vs
 | [], vs, h => by rw [RepL] at h ⊢; exact h
 | t :: ts, vs, h => by
  rw [RepL] at h ⊢
  obtain ⟨v, vs', e, q, r⟩ := h
  exact ⟨v, vs', e, Rep.mono s t v q, RepL.mono s ts vs' r⟩
theorem RepD.mono (s : Same F F') : ∀ (kts : List (Key × T)) (kvs : List (Key × V)), RepD K F kts kvs → RepD K F' kts kvs
 | [], vs, h => by rw [RepD] at h ⊢; exact h
 | (k, t) :: ts, vs, h => by
  rw [RepD] at h ⊢
  obtain ⟨v, vs', e, q, r⟩ := h
  exact ⟨v, vs', e, Rep.mono s t v q, RepD.mono s ts vs' r⟩
end
theorem Rep.of_int {i : Int} {v : V} (h : Rep K F (.int i) v) : v = .int i := by rw [Rep] at h; exact h
theorem Rep.of_bl {i : Bool} {v : V} (h : Rep K F (.bl i) v) : v = .bl i := by rw [Rep] at h; exact h
theorem Rep.of_str {i : Str} {v : V} (h : Rep K F (.str i) v) : v = .str i := by rw [Rep] at h; exact h
theorem Rep.of_non {v : V} (h : Rep K F .non v) : v = .non := by rw [Rep] at h; exact h
theorem Rep.int' (i : Int) : Rep K F (.int i) (.int i) := by rw [Rep]
theorem Rep.bl' (i : Bool) : Rep K F (.bl i) (.bl i) := by rw [Rep]
theorem Rep.str' (i : Str) : Rep K F (.str i) (.str i) := by rw [Rep]
theorem Rep.non' : Rep K F .non .non := by rw [Rep]
theorem RepL.length : ∀ {ts : List T} {vs : List V}, RepL K F ts vs → ts.length = vs.length
 | [], vs, h => by rw [RepL] at h; subst h; rfl
 | t :: ts, vs, h => by
  rw [RepL] at h
  obtain ⟨v, vs', rfl, _, r⟩ := h
  rw [List.length_cons, List.length_cons, RepL.length r]
theorem RepL.get : ∀ {ts : List T} {vs : List V} {i : Nat} {t : T}, RepL K F ts vs → ts[i]? = some t → ∃ v, vs[i]? = some v ∧ Rep K F t v
 | [], _, _, _, _, e => by simp at e
 | t :: ts, vs, 0, t', h, e => by
  rw [RepL] at h
  obtain ⟨v, vs', rfl, q, _⟩ := h
  simp at e; subst e
  exact ⟨v, rfl, q⟩
 | t :: ts, vs, i + 1, t', h, e => by
  rw [RepL] at h
  obtain ⟨v, vs', rfl, q, r⟩ := h
  obtain ⟨v', h1, h2⟩ := RepL.get (i := i) r (by simpa using e)
  exact ⟨v', by simpa using h1, h2⟩
theorem RepL.append : ∀ {ts us : List T} {vs ws : List V}, RepL K F ts vs → RepL K F us ws → RepL K F (ts ++ us) (vs ++ ws)
 | [], us, vs, ws, h, g => by rw [RepL] at h; subst h; exact g
 | t :: ts, us, vs, ws, h, g => by
  rw [RepL] at h
  obtain ⟨v, vs', rfl, q, r⟩ := h
  rw [List.cons_append, List.cons_append, RepL]
  exact ⟨v, vs' ++ ws, rfl, q, r.append g⟩
theorem RepL.nil' : RepL K F [] [] := by rw [RepL]
theorem RepL.cons' {t : T} {v : V} {ts : List T} {vs : List V} (q : Rep K F t v) (r : RepL K F ts vs) : RepL K F (t :: ts) (v :: vs) := by rw [RepL]; exact ⟨v, vs, rfl, q, r⟩
theorem RepL.one {t : T} {v : V} (q : Rep K F t v) : RepL K F [t] [v] := .cons' q .nil'
theorem RepL.drop : ∀ {ts : List T} {vs : List V} (n : Nat), RepL K F ts vs → RepL K F (ts.drop n) (vs.drop n)
 | _, _, 0, h => by simpa using h
 | [], vs, n + 1, h => by rw [RepL] at h; subst h; simpa using RepL.nil'
 | t :: ts, vs, n + 1, h => by
  rw [RepL] at h
  obtain ⟨v, vs', rfl, q, r⟩ := h
  exact r.drop n
theorem RepL.set : ∀ {ts : List T} {vs : List V} (i : Nat) {t : T} {v : V}, RepL K F ts vs → Rep K F t v → RepL K F (ts.set i t) (vs.set i v)
 | [], vs, i, _, _, h, _ => by rw [RepL] at h; subst h; simpa using RepL.nil'
 | t :: ts, vs, 0, t', v', h, g => by
  rw [RepL] at h
  obtain ⟨v, vs', rfl, q, r⟩ := h
  exact .cons' g r
 | t :: ts, vs, i + 1, t', v', h, g => by
  rw [RepL] at h
  obtain ⟨v, vs', rfl, q, r⟩ := h
  exact .cons' q (r.set i g)
theorem RepL.of_ints : ∀ (ns : List Int), RepL K F (ns.map T.int) (ns.map V.int)
 | [] => .nil'
 | n :: ns => .cons' (Rep.int' n) (RepL.of_ints ns)
noncomputable def Now (K : PySem.W.Frag) (F H : Hp) (v : V) : T → Prop
 | .lst ts => ∃ a vs, v = .ref a ∧ SqL K H a vs ∧ RepL K F ts vs
 | .tup ts => ∃ a vs, v = .ref a ∧ SqT K F a vs ∧ RepL K F ts vs
 | .dct kts => ∃ a kvs, v = .ref a ∧ H a = some (.dK kvs) ∧ RepD K F kts kvs
 | t => Rep K F t v
theorem Now.of_rep (s : Same F H) {t : T} {v : V} (h : Rep K F t v) : Now K F H v t := by
 cases t with
 | lst ts => rw [Rep] at h; obtain ⟨a, vs, e, q, r⟩ := h; exact ⟨a, vs, e, s.seq q, r⟩
 | tup ts => rw [Rep] at h; obtain ⟨a, vs, e, q, r⟩ := h; exact ⟨a, vs, e, q, r⟩
 | dct ts => rw [Rep] at h; obtain ⟨a, vs, e, q, r⟩ := h; exact ⟨a, vs, e, s _ _ q, r⟩
 | _ => exact h
theorem Now.int {i : Int} {v : V} (h : Now K F H v (.int i)) : v = .int i := Rep.of_int (K := K) (F := F) h
theorem Now.bl {i : Bool} {v : V} (h : Now K F H v (.bl i)) : v = .bl i := Rep.of_bl (K := K) (F := F) h
theorem Now.str {i : Str} {v : V} (h : Now K F H v (.str i)) : v = .str i := Rep.of_str (K := K) (F := F) h
end
noncomputable def PtOk (K : PySem.W.Frag) (F : Hp) (α : List Addr) (v : V) : Sum T Nat → Prop
 | .inl t => Rep K F t v
 | .inr k => ∃ a, α[k]? = some a ∧ v = .ref a
noncomputable def SvOk (K : PySem.W.Frag) (F : Hp) (α : List Addr) (v : V) : SV → Prop
 | .val t => Rep K F t v
 | .cel k => ∃ a, α[k]? = some a ∧ v = .ref a
 | .box xs => ∃ a vs, v = .ref a ∧ SqT K F a vs ∧ Paired (PtOk K F α) vs xs
noncomputable def CellOk (K : PySem.W.Frag) (F H : Hp) (a : Addr) : T → Prop
 | .lst ts => ∃ vs, H a = some (.lst vs) ∧ RepL K F ts vs
 | .dct kts => ∃ kvs, H a = some (.dK kvs) ∧ RepD K F kts kvs
 | _ => False
structure StOk (K : PySem.W.Frag) (F : Hp) (α : List Addr) (μ : Store) (H : Hp) : Prop where
 ext : Same F H
 len : α.length = μ.length
 nd : α.Nodup
 there : ∀ (k : Nat) (a : Addr), α[k]? = some a → ∃ o, H a = some o
 cell : ∀ (k : Nat) (b : Bool) (t : T) (a : Addr), μ[k]? = some (b, t) → α[k]? = some a → (b = true → F a = none ∧ CellOk K F H a t) ∧ (b = false → Rep K F t (.ref a))
structure Sim (K : PySem.W.Frag) (F : Hp) (α : List Addr) (e : Slots) (μ : Store) (σ : St) (H : Hp) : Prop where
 st : StOk K F α μ H
 sl : ∀ i x, slot e i = some x → ∃ v, σ[i]? = some (some v) ∧ SvOk K F α v x
 len : e.length = σ.length
section
variable {K : PySem.W.Frag} {F F' F2 H H' : Hp} {α α' : List Addr} {e : Slots} {μ : Store} {σ : St} {v : V} {x : SV} {t : T}
theorem pre_get {k : Nat} {a : Addr} (p : α <+: α') (h : α[k]? = some a) : α'[k]? = some a := by
 obtain ⟨l, rfl⟩ := p
 have hk : k < α.length := (List.getElem?_eq_some_iff.mp h).1
 rw [List.getElem?_append_left hk]; exact h
theorem PtOk.mono {y : Sum T Nat} (s : Same F F') (p : α <+: α') (h : PtOk K F α v y) : PtOk K F' α' v y := by
 cases y with
 | inl t => exact Rep.mono s t v h
 | inr k => obtain ⟨a, h1, h2⟩ := h; exact ⟨a, pre_get p h1, h2⟩
theorem SvOk.mono (s : Same F F') (p : α <+: α') (h : SvOk K F α v x) : SvOk K F' α' v x := by
 cases x with
 | val t => exact Rep.mono s t v h
 | cel k => obtain ⟨a, h1, h2⟩ := h; exact ⟨a, pre_get p h1, h2⟩
 | box xs => obtain ⟨a, vs, e, q, r⟩ := h; exact ⟨a, vs, e, Same.seqT s q, Paired.imp' (fun _ _ z => PtOk.mono s p z) r⟩
theorem now_of (S : StOk K F α μ H) (h : SvOk K F α v x) (r : rd μ x = some t) : Now K F H v t := by
 cases x with
 | val u => cases r; exact Now.of_rep S.ext h
 | cel k =>
  obtain ⟨a, h1, rfl⟩ := h
  cases q : μ[k]? with
  | none => simp [rd, q] at r
  | some c =>
   obtain ⟨b, u⟩ := c
   simp only [rd, q, Option.map_some] at r
   cases r
   obtain ⟨c1, c2⟩ := S.cell k b t a q h1
   cases b with
   | false => exact Now.of_rep S.ext (c2 rfl)
   | true =>
    obtain ⟨_, c⟩ := c1 rfl
    cases t with
    | lst ts => obtain ⟨vs, g1, g2⟩ := c; exact ⟨a, vs, rfl, SqL.of g1, g2⟩
    | dct ts => obtain ⟨vs, g1, g2⟩ := c; exact ⟨a, vs, rfl, g1, g2⟩
    | _ => exact c.elim
 | box xs => cases r
noncomputable def Grow (F H F' H' : Hp) : Prop := ∀ b, (F' b = F b ∧ H' b = H b) ∨ (H b = none ∧ F' b = H' b)
theorem Grow.refl : Grow F H F H := fun _ => .inl ⟨rfl, rfl⟩
theorem Grow.new {p : Addr} {o : HO} (h : H p = none) : Grow F H (upd F p o) (upd H p o) := fun b => by
 by_cases e : b = p
 ·subst e; exact .inr ⟨h, by rw [upd_same, upd_same]⟩
 ·exact .inl ⟨upd_ne e, upd_ne e⟩
theorem Grow.same (g : Grow F H F' H') (s : Same F H) : Same F F' := fun b o h => by
 rcases g b with ⟨e1, e2⟩ | ⟨e1, e2⟩
 ·rw [e1]; exact h
 ·rw [s b o h] at e1; cases e1
theorem Grow.ext (g : Grow F H F' H') (s : Same F H) : Same F' H' := fun b o h => by
 rcases g b with ⟨e1, e2⟩ | ⟨e1, e2⟩
 ·rw [e2]; rw [e1] at h; exact s b o h
 ·rw [← e2]; exact h
theorem CellOk.grow (g : Grow F H F' H') (s : Same F H) {a : Addr} (h : CellOk K F H a t) : CellOk K F' H' a t := by
 have keep : ∀ {o : HO}, H a = some o → H' a = some o := fun {o} h => by
  rcases g a with ⟨e1, e2⟩ | ⟨e1, e2⟩
  ·rw [e2]; exact h
  ·rw [h] at e1; cases e1
 cases t with
 | lst ts => obtain ⟨vs, h1, h2⟩ := h; exact ⟨vs, keep h1, RepL.mono (g.same s) _ _ h2⟩
 | dct ts => obtain ⟨vs, h1, h2⟩ := h; exact ⟨vs, keep h1, RepD.mono (g.same s) _ _ h2⟩
 | _ => exact h.elim
theorem CellOk.there {a : Addr} (h : CellOk K F H a t) : ∃ o, H a = some o := by
 cases t with
 | lst ts => obtain ⟨vs, h1, h2⟩ := h; exact ⟨_, h1⟩
 | dct ts => obtain ⟨vs, h1, h2⟩ := h; exact ⟨_, h1⟩
 | _ => exact h.elim
theorem StOk.grow (S : StOk K F α μ H) (g : Grow F H F' H') : StOk K F' α μ H' where
 ext := g.ext S.ext
 len := S.len
 nd := S.nd
 there := fun k a h => by
  obtain ⟨o, ho⟩ := S.there k a h
  rcases g a with ⟨e1, e2⟩ | ⟨e1, e2⟩
  ·exact ⟨o, by rw [e2]; exact ho⟩
  ·rw [ho] at e1; cases e1
 cell := fun k b t a h1 h2 => by
  obtain ⟨c1, c2⟩ := S.cell k b t a h1 h2
  refine ⟨fun hb => ?_, fun hb => Rep.mono (g.same S.ext) _ _ (c2 hb)⟩
  obtain ⟨d1, d2⟩ := c1 hb
  refine ⟨?_, d2.grow g S.ext⟩
  obtain ⟨o, ho⟩ := d2.there
  rcases g a with ⟨e1, e2⟩ | ⟨e1, e2⟩
  ·rw [e1]; exact d1
  ·rw [ho] at e1; cases e1
theorem Sim.grow (S : Sim K F α e μ σ H) (g : Grow F H F' H') : Sim K F' α e μ σ H' where
 st := S.st.grow g
 sl := fun i x h => by
  obtain ⟨v, h1, h2⟩ := S.sl i x h
  exact ⟨v, h1, h2.mono (g.same S.st.ext) (List.prefix_refl _)⟩
 len := S.len
theorem Sim.of (S : Sim K F α e μ σ H) {μ' : Store} (s : Same F F') (p : α <+: α') (S' : StOk K F' α' μ' H') : Sim K F' α' e μ' σ H' :=
 ⟨S', fun i x h => by
  obtain ⟨v, h1, h2⟩ := S.sl i x h
  exact ⟨v, h1, h2.mono s p⟩, S.len⟩
theorem nodup_at {k j : Nat} {a : Addr} (n : α.Nodup) (h1 : α[k]? = some a) (h2 : α[j]? = some a) : k = j := by
 obtain ⟨a1, b1⟩ := List.getElem?_eq_some_iff.mp h1
 obtain ⟨a2, b2⟩ := List.getElem?_eq_some_iff.mp h2
 exact (List.getElem_inj n).mp (b1.trans b2.symm)
theorem frz_cel {k : Nat} (S : StOk K F α μ H) (h : ∃ a, α[k]? = some a ∧ v = .ref a) {μ' : Store} (r : frz (.cel k) μ = .ok t μ') : ∃ F', Same F F' ∧ (∀ b, b ∉ α → F' b = F b) ∧ StOk K F' α μ' H ∧ Rep K F' t v := by
  obtain ⟨a, h1, rfl⟩ := h
  unfold frz at r
  cases q : μ[k]? with
  | none => simp only [q] at r; cases r
  | some c =>
   obtain ⟨b, u⟩ := c
   simp only [q] at r
   cases r
   have hk : k < μ.length := (List.getElem?_eq_some_iff.mp q).1
   obtain ⟨c1, c2⟩ := S.cell k b t a q h1
   have main : ∃ F', Same F F' ∧ Same F' H ∧ Rep K F' t (.ref a) ∧ ∀ c, c ≠ a → F' c = F c := by
    cases b with
    | false => exact ⟨F, Same.refl F, S.ext, c2 rfl, fun _ _ => rfl⟩
    | true =>
     obtain ⟨d1, d2⟩ := c1 rfl
     obtain ⟨o, ho⟩ := d2.there
     have s1 : Same F (upd F a o) := fun c z hz => by
      rw [upd_ne (fun q => by subst q; rw [d1] at hz; cases hz)]; exact hz
     refine ⟨upd F a o, s1, fun c z hz => ?_, ?_, fun c hc => upd_ne hc⟩
     ·by_cases e : c = a
      ·subst e; rw [upd_same] at hz; cases hz; exact ho
      ·rw [upd_ne e] at hz; exact S.ext c z hz
     ·cases t with
      | lst ts => obtain ⟨vs, g1, g2⟩ := d2; rw [g1] at ho; cases ho; rw [Rep]; exact ⟨a, vs, rfl, SqL.of upd_same, RepL.mono s1 _ _ g2⟩
      | dct ts => obtain ⟨vs, g1, g2⟩ := d2; rw [g1] at ho; cases ho; rw [Rep]; exact ⟨a, vs, rfl, upd_same, RepD.mono s1 _ _ g2⟩
      | _ => exact d2.elim
   obtain ⟨F', s1, s2, rp, ne⟩ := main
   refine ⟨F', s1, fun c hc => ne c fun q => hc (by rw [q]; exact List.mem_of_getElem? h1), ⟨s2, by rw [List.length_set]; exact S.len, S.nd, S.there, fun j b' u' a' g1 g2 => ?_⟩, rp⟩
   by_cases e : j = k
   ·subst e
    rw [List.getElem?_set_self hk] at g1
    cases g1
    rw [h1] at g2; cases g2
    exact ⟨fun z => (by cases z), fun _ => rp⟩
   ·rw [List.getElem?_set_ne (Ne.symm e)] at g1
    obtain ⟨z1, z2⟩ := S.cell j b' u' a' g1 g2
    have na : a' ≠ a := fun q => by subst q; exact e (nodup_at S.nd g2 h1)
    refine ⟨fun hb => ?_, fun hb => Rep.mono s1 _ _ (z2 hb)⟩
    obtain ⟨y1, y2⟩ := z1 hb
    refine ⟨by rw [ne _ na]; exact y1, ?_⟩
    cases u' with
    | lst ts => obtain ⟨vs, w1, w2⟩ := y2; exact ⟨vs, w1, RepL.mono s1 _ _ w2⟩
    | dct ts => obtain ⟨vs, w1, w2⟩ := y2; exact ⟨vs, w1, RepD.mono s1 _ _ w2⟩
    | _ => exact y2.elim
theorem frz1_eq (k : Nat) (μ : Store) : frz1 (.inr k) μ = frz (.cel k) μ := by unfold frz1 frz; rfl
theorem frz1s_ok : ∀ {xs : List (Sum T Nat)} {vs : List V} {μ μ' : Store} {F : Hp} {ts : List T}, StOk K F α μ H → Paired (PtOk K F α) vs xs → frz1s xs μ = .ok ts μ' → ∃ F', Same F F' ∧ (∀ b, b ∉ α → F' b = F b) ∧ StOk K F' α μ' H ∧ RepL K F' ts vs
 | [], vs, μ, μ', F, ts, S, p, r => by
  cases p
  cases r
  exact ⟨F, Same.refl F, fun _ _ => rfl, S, RepL.nil'⟩
 | x :: xs, vs, μ, μ', F, ts, S, p, r => by
  cases p with
  | @cons v₁ _ vs₁ _ hv p =>
   unfold frz1s at r
   obtain ⟨t, μ1, r1, r⟩ := R.bind_eq_ok r
   obtain ⟨ts', μ2, r2, r⟩ := R.bind_eq_ok r
   cases r
   have one : ∃ F', Same F F' ∧ (∀ b, b ∉ α → F' b = F b) ∧ StOk K F' α μ1 H ∧ Rep K F' t v₁ := by
    cases x with
    | inl u => cases r1; exact ⟨F, Same.refl F, fun _ _ => rfl, S, hv⟩
    | inr k => rw [frz1_eq] at r1; exact frz_cel S hv r1
   obtain ⟨F1, s1, n1, S1, q1⟩ := one
   obtain ⟨F2, s2, n2, S2, q2⟩ := frz1s_ok S1 (Paired.imp' (fun _ _ z => PtOk.mono s1 (List.prefix_refl _) z) p) r2
   exact ⟨F2, s1.trans s2, fun b hb => (n2 b hb).trans (n1 b hb), S2, .cons' (Rep.mono s2 _ _ q1) q2⟩
theorem frz_ok (S : StOk K F α μ H) (h : SvOk K F α v x) {μ' : Store} (r : frz x μ = .ok t μ') : ∃ F', Same F F' ∧ (∀ b, b ∉ α → F' b = F b) ∧ StOk K F' α μ' H ∧ Rep K F' t v := by
 cases x with
 | val u => cases r; exact ⟨F, Same.refl F, fun _ _ => rfl, S, h⟩
 | cel k => exact frz_cel S h r
 | box xs =>
  obtain ⟨a, vs, rfl, q, p⟩ := h
  unfold frz at r
  obtain ⟨ts, μ1, r1, r⟩ := R.bind_eq_ok r
  cases r
  obtain ⟨F1, s1, n1, S1, q1⟩ := frz1s_ok S p r1
  refine ⟨F1, s1, n1, S1, ?_⟩
  rw [Rep]
  exact ⟨a, vs, rfl, Same.seqT s1 q, q1⟩
theorem frzs_ok : ∀ {xs : List SV} {vs : List V} {μ μ' : Store} {F : Hp} {ts : List T}, StOk K F α μ H → Paired (fun v x => SvOk K F α v x) vs xs → frzs xs μ = .ok ts μ' → ∃ F', Same F F' ∧ (∀ b, b ∉ α → F' b = F b) ∧ StOk K F' α μ' H ∧ RepL K F' ts vs
 | [], vs, μ, μ', F, ts, S, p, r => by
  cases p
  cases r
  exact ⟨F, Same.refl F, fun _ _ => rfl, S, RepL.nil'⟩
 | x :: xs, vs, μ, μ', F, ts, S, p, r => by
  cases p with
  | cons hv p =>
   rw [frzs_cons] at r
   obtain ⟨t, μ1, r1, r⟩ := R.bind_eq_ok r
   obtain ⟨ts', μ2, r2, r⟩ := R.bind_eq_ok r
   cases r
   obtain ⟨F1, s1, n1, S1, q1⟩ := frz_ok S hv r1
   obtain ⟨F2, s2, n2, S2, q2⟩ := frzs_ok S1 (Paired.imp' (fun _ _ z => SvOk.mono s1 (List.prefix_refl _) z) p) r2
   exact ⟨F2, s1.trans s2, fun b hb => (n2 b hb).trans (n1 b hb), S2, .cons' (Rep.mono s2 _ _ q1) q2⟩
theorem put_ok (S : StOk K F α μ H) {k : Nat} {a : Addr} {t₀ : T} {o : HO} (hk : μ[k]? = some (true, t₀)) (ha : α[k]? = some a) (c : CellOk K F (upd H a o) a t) : StOk K F α (μ.set k (true, t)) (upd H a o) := by
 have hlt : k < μ.length := (List.getElem?_eq_some_iff.mp hk).1
 have hF := ((S.cell k true t₀ a hk ha).1 rfl).1
 refine ⟨fun b z hz => ?_, by rw [List.length_set]; exact S.len, S.nd, fun j b h => ?_, fun j b u a' h1 h2 => ?_⟩
 ·rw [upd_ne (fun q => by subst q; rw [hF] at hz; cases hz)]; exact S.ext b z hz
 ·by_cases e : b = a
  ·subst e; exact ⟨o, upd_same⟩
  ·rw [upd_ne e]; exact S.there j b h
 ·by_cases e : j = k
  ·subst e
   rw [List.getElem?_set_self hlt] at h1
   cases h1
   rw [ha] at h2; cases h2
   exact ⟨fun _ => ⟨hF, c⟩, fun z => (by cases z)⟩
  ·rw [List.getElem?_set_ne (Ne.symm e)] at h1
   have na : a' ≠ a := fun q => by subst q; exact e (nodup_at S.nd h2 ha)
   obtain ⟨c1, c2⟩ := S.cell j b u a' h1 h2
   refine ⟨fun hb => ⟨(c1 hb).1, ?_⟩, c2⟩
   have d := (c1 hb).2
   cases u with
   | lst ts => obtain ⟨vs, w1, w2⟩ := d; exact ⟨vs, by rw [upd_ne na]; exact w1, w2⟩
   | dct ts => obtain ⟨vs, w1, w2⟩ := d; exact ⟨vs, by rw [upd_ne na]; exact w1, w2⟩
   | _ => exact d.elim
theorem StOk.take {β : List Addr} (S : StOk K F β μ H) (n : Nat) : StOk K F (β.take n) (μ.take n) H := by
 have cut : ∀ {γ : Type} {l : List γ} {k : Nat} {z : γ}, (l.take n)[k]? = some z → l[k]? = some z := fun {γ l k z} h => by
  rw [List.getElem?_take] at h
  split at h
  ·exact h
  ·cases h
 exact ⟨S.ext, by rw [List.length_take, List.length_take, S.len], S.nd.sublist (List.take_sublist _ _), fun k a h => S.there k a (cut h), fun k b t a h1 h2 => S.cell k b t a (cut h1) (cut h2)⟩
theorem gc_ok {μ₀ : Store} {β : List Addr} {r : SV} {μ' : Store} (hα : α.length = μ₀.length) (p : α <+: β) (S : StOk K F β μ H) (h : SvOk K F β v x) (hg : gc μ₀.length x μ = .ok r μ') :
  ∃ γ, α <+: γ ∧ (∀ b, b ∈ γ → b ∈ β) ∧ StOk K F γ μ' H ∧ SvOk K F γ v r := by
 have hn : β.take μ₀.length = α := by
  rw [← hα]
  obtain ⟨l, rfl⟩ := p
  simp
 have hp : α <+: β.take μ₀.length := by rw [hn]; exact List.prefix_refl _
 unfold gc at hg
 cases x with
 | val t =>
  simp only at hg
  cases hg
  exact ⟨β.take μ₀.length, hp, fun b hb => List.mem_of_mem_take hb, S.take _, h⟩
 | cel k =>
  obtain ⟨a, ha, rfl⟩ := h
  simp only at hg
  by_cases hk : k < μ₀.length
  ·rw [if_pos hk] at hg
   cases hg
   exact ⟨β.take μ₀.length, hp, fun b hb => List.mem_of_mem_take hb, S.take _, a, by rw [List.getElem?_take_of_lt hk]; exact ha, rfl⟩
  ·rw [if_neg hk] at hg
   cases hc : μ[k]? with
   | none => rw [hc] at hg; cases hg
   | some c =>
    rw [hc] at hg
    cases hg
    have T := S.take μ₀.length
    have hl : (β.take μ₀.length).length = μ₀.length := by rw [hn]; exact hα
    have hl2 : (μ.take μ₀.length).length = μ₀.length := by rw [← T.len]; exact hl
    have hend : ∀ {γ : Type} {l : List γ} {z : γ} {j : Nat} {y : γ}, l.length = μ₀.length → (l ++ [z])[j]? = some y → (j < μ₀.length ∧ l[j]? = some y) ∨ (j = μ₀.length ∧ y = z) := fun {γ l z j y} e h => by
     by_cases hj : j < l.length
     ·rw [List.getElem?_append_left hj] at h; exact .inl ⟨by lia, h⟩
     ·rw [List.getElem?_append_right (by lia)] at h
      by_cases h0 : j - l.length = 0
      ·rw [h0] at h; simp at h; exact .inr ⟨by lia, h.symm⟩
      ·rw [List.getElem?_eq_none (by simp; lia)] at h; cases h
    have cut : ∀ {γ : Type} {l : List γ} {j : Nat} {z : γ}, (l.take μ₀.length)[j]? = some z → l[j]? = some z := fun {γ l j z} h => by
     rw [List.getElem?_take] at h
     split at h
     ·exact h
     ·cases h
    refine ⟨β.take μ₀.length ++ [a], hp.trans (List.prefix_append _ _), fun b hb => (List.mem_append.mp hb).elim (fun z => List.mem_of_mem_take z) fun z => by simp at z; subst z; exact List.mem_of_getElem? ha, ⟨S.ext, by rw [List.length_append, List.length_append, hl, hl2]; rfl, ?_, fun j b g => ?_, fun j b u a' g1 g2 => ?_⟩, a, ?_, rfl⟩
    ·rw [List.nodup_append]
     refine ⟨T.nd, by simp, fun b hb b' hb' => ?_⟩
     simp at hb'
     subst hb'
     intro q
     subst q
     obtain ⟨j, hj⟩ := List.mem_iff_getElem?.mp hb
     have hj' : j < μ₀.length := by rw [← hl]; exact (List.getElem?_eq_some_iff.mp hj).1
     have := nodup_at S.nd (cut hj) ha
     lia
    ·rcases hend hl g with ⟨_, g'⟩ | ⟨_, rfl⟩
     ·exact T.there j b g'
     ·exact S.there k _ ha
    ·rcases hend hl g2 with ⟨hj, g'⟩ | ⟨hj, rfl⟩
     ·rcases hend hl2 g1 with ⟨_, g1'⟩ | ⟨hj', _⟩
      ·exact T.cell j b u a' g1' g'
      ·lia
     ·rcases hend hl2 g1 with ⟨hj', _⟩ | ⟨_, e⟩
      ·lia
      ·exact S.cell k b u _ (by rw [hc, e]) ha
    ·rw [List.getElem?_append_right (by lia), hl]
     simp
 | box xs => cases hg
theorem ice_ok {μ₀ : Store} {β : List Addr} {r : SV} {μ' : Store} (hα : α.length = μ₀.length) (p : α <+: β) (S : StOk K F β μ H) (h : SvOk K F β v x) (hg : ice μ₀.length x μ = .ok r μ') :
  ∃ F', Same F F' ∧ (∀ b, b ∉ β → F' b = F b) ∧ StOk K F' α μ' H ∧ SvOk K F' α v r := by
 unfold ice at hg
 obtain ⟨t, μ1, h1, hg⟩ := R.bind_eq_ok hg
 cases hg
 obtain ⟨F1, s1, n1, S1, q1⟩ := frz_ok S h h1
 have hn : β.take μ₀.length = α := by
  rw [← hα]
  obtain ⟨l, rfl⟩ := p
  simp
 have S2 := S1.take μ₀.length
 rw [hn] at S2
 exact ⟨F1, s1, n1, S2, q1⟩
end
structure Ex (F : Hp) (α : List Addr) (H F' : Hp) (α' : List Addr) (H' : Hp) : Prop where
 same : Same F F'
 pre : α <+: α'
 fr : ∀ b o, H b = some o → F b = none → b ∉ α → H' b = some o ∧ F' b = none ∧ b ∉ α'
section
variable {K : PySem.W.Frag} {F F' F1 F2 H H' H1 H2 : Hp} {α α' α1 α2 : List Addr} {μ μ' : Store}
theorem Ex.refl : Ex F α H F α H := ⟨Same.refl F, List.prefix_refl _, fun _ _ h1 h2 h3 => ⟨h1, h2, h3⟩⟩
theorem Ex.trans (x : Ex F α H F1 α1 H1) (y : Ex F1 α1 H1 F2 α2 H2) : Ex F α H F2 α2 H2 :=
 ⟨x.same.trans y.same, x.pre.trans y.pre, fun b o h1 h2 h3 => let ⟨g1, g2, g3⟩ := x.fr b o h1 h2 h3; y.fr b o g1 g2 g3⟩
theorem Ex.of_ne (s : Same F F') (n : ∀ b, b ∉ α → F' b = F b) : Ex F α H F' α H := ⟨s, List.prefix_refl _, fun b o h1 h2 h3 => ⟨h1, by rw [n b h3]; exact h2, h3⟩⟩
theorem Grow.ex (g : Grow F H F' H') (s : Same F H) : Ex F α H F' α H' := ⟨g.same s, List.prefix_refl _, fun b o h1 h2 h3 => by
 rcases g b with ⟨e1, e2⟩ | ⟨e1, e2⟩
 ·exact ⟨by rw [e2]; exact h1, by rw [e1]; exact h2, h3⟩
 ·rw [h1] at e1; cases e1⟩
theorem Ex.was {p : Addr} (x : Ex F α H F1 α1 H1) (S : StOk K F1 α1 μ H1) (h : H1 p = none) : H p = none := by
 cases q : H p with
 | none => rfl
 | some o =>
  exfalso
  cases f : F p with
  | some z => rw [S.ext p z (x.same p z f)] at h; cases h
  | none =>
   by_cases hm : p ∈ α
   ·obtain ⟨k, hk⟩ := List.mem_iff_getElem?.mp hm
    obtain ⟨z, hz⟩ := S.there k p (pre_get x.pre hk)
    rw [hz] at h; cases h
   ·rw [(x.fr p o q f hm).1] at h; cases h
theorem Ex.lay {p : Addr} {o : HO} (h : H p = none) : Ex F α H F α (upd H p o) := ⟨Same.refl F, List.prefix_refl _, fun b z h1 h2 h3 => ⟨by rw [upd_ne (fun q => by subst q; rw [h] at h1; cases h1)]; exact h1, h2, h3⟩⟩
theorem Ex.put {k : Nat} {a : Addr} {o : HO} (ha : α[k]? = some a) : Ex F α H F α (upd H a o) := ⟨Same.refl F, List.prefix_refl _, fun b z h1 h2 h3 => ⟨by rw [upd_ne (fun q => h3 (by rw [q]; exact List.mem_of_getElem? ha))]; exact h1, h2, h3⟩⟩
theorem Ex.more {p : Addr} (x : Ex F α H F' α' H') (h : H p = none) : Ex F α H F' (α' ++ [p]) H' := ⟨x.same, x.pre.trans (List.prefix_append _ _), fun b o h1 h2 h3 => by
 obtain ⟨g1, g2, g3⟩ := x.fr b o h1 h2 h3
 refine ⟨g1, g2, fun hm => ?_⟩
 rcases List.mem_append.mp hm with z | z
 ·exact g3 z
 ·simp at z; subst z; rw [h] at h1; cases h1⟩
theorem Ex.ice {p : Addr} {o : HO} (x : Ex F α H F' α' H') (h : H p = none) (h' : F' p = none) : Ex F α H (upd F' p o) α' H' := ⟨x.same.trans fun b z hz => by
  rw [upd_ne (fun q => by subst q; rw [h'] at hz; cases hz)]; exact hz, x.pre, fun b z h1 h2 h3 => by
 obtain ⟨g1, g2, g3⟩ := x.fr b z h1 h2 h3
 exact ⟨g1, by rw [upd_ne (fun q => by subst q; rw [h] at h1; cases h1)]; exact g2, g3⟩⟩
end
end Fw
namespace Fw
open PySem L2
theorem RepD.length {K : PySem.W.Frag} {F : Hp} : ∀ {ts : List (Key × T)} {vs : List (Key × V)}, RepD K F ts vs → ts.length = vs.length
 | [], vs, h => by rw [RepD] at h; subst h; rfl
 | (k, t) :: ts, vs, h => by
  rw [RepD] at h
  obtain ⟨v, vs', rfl, _, r⟩ := h
  rw [List.length_cons, List.length_cons, RepD.length r]
end Fw
namespace Fw
open PySem L2
noncomputable def R.wp {α : Type} (r : R α) (Q : α → Store → Prop) (E : T → Store → Prop) : Prop := match r with
 | .ok a μ => Q a μ
 | .err c μ => E c μ
 | .bad => False
theorem R.wp_bind {α β : Type} {r : R α} {f : α → Store → R β} {Q : β → Store → Prop} {E : T → Store → Prop} (h : (r.bind f).wp Q E) : r.wp (fun a μ => (f a μ).wp Q E) E := by
 cases r <;> exact h
theorem R.wp.mono {α : Type} {r : R α} {Q Q' : α → Store → Prop} {E E' : T → Store → Prop} (h : r.wp Q E) (hQ : ∀ a μ, Q a μ → Q' a μ) (hE : ∀ c μ, E c μ → E' c μ) : r.wp Q' E' := by
 cases r with
 | ok a μ => exact hQ a μ h
 | err c μ => exact hE c μ h
 | bad => exact h
theorem R.wp_lift {α : Type} {o : Option α} {μ : Store} {Q : α → Store → Prop} {E : T → Store → Prop} (h : (R.lift o μ).wp Q E) : ∃ a, o = some a ∧ Q a μ := by
 cases o with
 | none => exact h.elim
 | some a => exact ⟨a, rfl, h⟩
noncomputable def Post (K : PySem.W.Frag) (F : Hp) (α : List Addr) (H : Hp) (e : Slots) (σ : St) (Q : VK) (x : SV) (μ : Store) : Prop :=
 ∀ v H' F' α', Ex F α H F' α' H' → Sim K F' α' e μ σ H' → SvOk K F' α' v x → Q v H'
noncomputable def Flies (X : Cx) (pins : List (Addr × Obj)) (σ : St) (H : Hp) (c : T) (ev : Value) (s' : Shared) : Prop :=
 ∃ n C, c = .exc n none ∧ X.mg n = some (.ref C) ∧ ((X.calm = true ∧ ∃ s h' e vs, Inv X pins σ H s ∧ Heap.MadeExcOf s.heap h' e (.ref C) vs ∧ ev = .ref e ∧ s' = { s with heap := h' }) ∨
  (∃ H0 s, Inv X pins σ H0 s ∧ CX1 X.prog X.w X.stack H0 s (fun cv _ H' => cv = .ref C ∧ H' = H) ev s') ∨ (X.calm = true ∧ ∃ e t B, ev = .ref e ∧ Hel X pins σ H e t C B s'))
noncomputable def XPost (X : Cx) (F : Hp) (α : List Addr) (H : Hp) (e : Slots) (c : T) (μ : Store) : Prop :=
 ∀ ev s', (∃ pins σ' H' F' α', Ex F α H F' α' H' ∧ Sim X.K F' α' e μ σ' H' ∧ Flies X pins σ' H' c ev s') → X.xe ev s'
theorem XPost.mono {X : Cx} {F F1 H H1 : Hp} {α α1 : List Addr} {e : Slots} {c : T} {μ : Store} (x : Ex F α H F1 α1 H1) (h : XPost X F α H e c μ) : XPost X F1 α1 H1 e c μ :=
 fun ev s' ⟨pins, σ', H', F', α', y, S, f⟩ => h ev s' ⟨pins, σ', H', F', α', x.trans y, S, f⟩
noncomputable def tD (X : Cx) (d : D) : TE := fun σ H Q => ∃ F α e μ, Sim X.K F α e μ σ H ∧ (d e μ).wp (Post X.K F α H e σ Q) (XPost X F α H e)
noncomputable def tDT (X : Cx) (d : D) : TT := fun σ H Q => ∃ F α e μ, Sim X.K F α e μ σ H ∧ (d e μ).wp (fun x μ' => ∃ b, x = .val (.bl b) ∧
 ∀ H' F' α', Ex F α H F' α' H' → Sim X.K F' α' e μ' σ H' → Q b H') (XPost X F α H e)
noncomputable def tDA (X : Cx) (ds : List D) : TA := fun σ H Q => ∃ F α e μ, Sim X.K F α e μ σ H ∧ (dArgs ds e μ).wp (fun xs μ' =>
 ∀ vs H' F' α', Ex F α H F' α' H' → Sim X.K F' α' e μ' σ H' → Paired (fun v x => SvOk X.K F' α' v x) vs xs → Q vs H') (XPost X F α H e)
noncomputable def CE (X : Cx) (e : Expr) (d : D) : Prop := PE X e (tD X d)
noncomputable def CT (X : Cx) (e : Expr) (d : D) : Prop := PT X e (tDT X d)
noncomputable def CA (X : Cx) (es : List Expr) (ds : List D) : Prop := PA X es (tDA X ds)
theorem PE.imp {X : Cx} {e : Expr} {t t' : TE} (h : PE X e t) (i : ∀ σ H Q, t' σ H Q → t σ H Q) : PE X e t' := fun pins s σ H Q I q => h pins s σ H Q I (i σ H Q q)
theorem PT.imp {X : Cx} {e : Expr} {t t' : TT} (h : PT X e t) (i : ∀ σ H Q, t' σ H Q → t σ H Q) : PT X e t' := fun pins s σ H Q I q => h pins s σ H Q I (i σ H Q q)
theorem PA.imp {X : Cx} {e : List Expr} {t t' : TA} (h : PA X e t) (i : ∀ σ H Q, t' σ H Q → t σ H Q) : PA X e t' := fun pos pins s σ H Q I q => h pos pins s σ H Q I (i σ H Q q)
theorem PS.imp {X : Cx} {e : Stmt} {t t' : TS} (h : PS X e t) (i : ∀ D σ H, t' D σ H → t D σ H) : PS X e t' := fun pins s σ H D I q => h pins s σ H D I (i D σ H q)
theorem PSs.imp {X : Cx} {e : List Stmt} {t t' : TS} (h : PSs X e t) (i : ∀ D σ H, t' D σ H → t D σ H) : PSs X e t' := fun pins s σ H D I q => h pins s σ H D I (i D σ H q)
noncomputable def OpSem (K : PySem.W.Frag) (r : R2) (f : T → T → Option T) : Prop := ∀ F H v u t t' w Q, Same F H → Now K F H v t → Now K F H u t' → f t t' = some w →
 (∀ v' H' F', Grow F H F' H' → Rep K F' w v' → Q v' H') → r v u H Q
noncomputable def UnSem (K : PySem.W.Frag) (r : V → Hp → VK → Prop) (f : T → Option T) : Prop := ∀ F H v t w Q, Same F H → Now K F H v t → f t = some w →
 (∀ v' H' F', Grow F H F' H' → Rep K F' w v' → Q v' H') → r v H Q
noncomputable def CallSem1 (K : PySem.W.Frag) (r : List V → Hp → VK → Prop) (f : T → Option T) : Prop := ∀ F H v t w Q, Same F H → Now K F H v t → f t = some w →
 (∀ v' H' F', Grow F H F' H' → Rep K F' w v' → Q v' H') → r [v] H Q
noncomputable def CallSem2 (K : PySem.W.Frag) (r : List V → Hp → VK → Prop) (f : T → T → Option T) : Prop := ∀ F H v u t t' w Q, Same F H → Now K F H v t → Now K F H u t' → f t t' = some w →
 (∀ v' H' F', Grow F H F' H' → Rep K F' w v' → Q v' H') → r [v, u] H Q
noncomputable def CallSemF (K : PySem.W.Frag) (r : List V → Hp → VK → Prop) (f : T → Option T) : Prop := ∀ F H v t w Q, Same F H → Now K F H v t → f t = some w →
 (∀ p o, H p = none → CellOk K F (upd H p o) p w → Q (.ref p) (upd H p o)) → r [v] H Q
section
variable {X : Cx} {a b c : Expr} {da db dc : D} {pos : Pos}
theorem ce_var (i : Nat) {x : Str} (hN : X.N[i]? = some x := by rfl) (hv : Vis X.env.scope x := by first | exact Or.inl rfl | exact Or.inr (Or.inl rfl) | exact Or.inr (Or.inr rfl)) (hd : (x == ("__debug__" : Str)) = false := by decide)
  (hcd : (x == ("__classdict__" : Str)) = false := by decide) : CE X (.Name x pos) (dVar i) :=
 PE.imp (pe_var hN hv hd hcd) fun σ H Q hX11_ => by
  obtain ⟨F, α, e, μ, S, h⟩ := hX11_
  obtain ⟨x, h1, h⟩ := R.wp_lift h
  obtain ⟨v, hv, ok⟩ := S.sl i x h1
  exact ⟨v, hv, h v H F α Ex.refl S ok⟩
theorem ce_const {v : V} {t : T} (h : PE X a (tC v)) (r : ∀ F, Rep X.K F t v) : CE X a (dC t) :=
 PE.imp h fun σ H Q ⟨F, α, e, μ, S, h⟩ => h v H F α Ex.refl S (r F)
theorem ce_int {i : Int} {j pos} : CE X (.Constant (.int i) j pos) (dC (.int i)) := ce_const pe_int fun _ => Rep.int' i
theorem ce_bl {i : Bool} {j pos} : CE X (.Constant (.bool i) j pos) (dC (.bl i)) := ce_const pe_bl fun _ => Rep.bl' i
theorem ce_str {i : Str} {j pos} : CE X (.Constant (.str i) j pos) (dC (.str i)) := ce_const pe_str fun _ => Rep.str' i
theorem two {r : R2} {f : T → T → Option T} (hs : OpSem X.K r f) (σ : St) (H : Hp) (Q : VK) (h : tD X (dBin f da db) σ H Q) : tOp r (tD X da) (tD X db) σ H Q := by
 obtain ⟨F, α, e, μ, S, h⟩ := h
 refine ⟨F, α, e, μ, S, ?_⟩
 refine (R.wp_bind h).mono (fun x μ1 h v H1 F1 α1 x1 S1 o1 => ⟨F1, α1, e, μ1, S1, ?_⟩) fun _ _ h => h
 refine (R.wp_bind h).mono (fun y μ2 h v2 H2 F2 α2 x2 S2 o2 => ?_) fun _ _ h => h.mono x1
 obtain ⟨w, h9, post⟩ := R.wp_lift h
 obtain ⟨t, u, w', ht, hu, h, rfl⟩ := ap2_eq h9
 exact hs F2 H2 v v2 t u w' Q S2.st.ext (now_of S2.st (o1.mono x2.same x2.pre) ht) (now_of S2.st o2 hu) h fun v' H' F' g rp =>
  post v' H' F' α2 (x1.trans (x2.trans (g.ex S2.st.ext))) (S2.grow g) rp
theorem ce_bin {op : Operator} {r : R2} {f : T → T → Option T} (ho : OpR X (binaryOp op) r) (hs : OpSem X.K r f) (ha : CE X a da) (hb : CE X b db) : CE X (.BinOp a op b pos) (dBin f da db) :=
 PE.imp (pe_op ho ha hb) (two hs)
theorem ce_cmp {op : CmpOp} {r : R2} {f : T → T → Option T} (ho : OpR X (compareOp op) r) (hs : OpSem X.K r f) (hm : behindInMarks op b = false) (ha : CE X a da) (hb : CE X b db) : CE X (.Compare a [op] [b] pos) (dBin f da db) :=
 PE.imp (pe_cmpR ho ha hb hm) (two hs)
theorem one {r : V → Hp → VK → Prop} {f : T → Option T} (hs : UnSem X.K r f) (σ : St) (H : Hp) (Q : VK) (h : tD X (dUn f da) σ H Q) : tUn r (tD X da) σ H Q := by
 obtain ⟨F, α, e, μ, S, h⟩ := h
 refine ⟨F, α, e, μ, S, ?_⟩
 refine (R.wp_bind h).mono (fun x μ1 h v H1 F1 α1 x1 S1 o1 => ?_) fun _ _ h => h
 obtain ⟨w, h9, post⟩ := R.wp_lift h
 obtain ⟨t, w', ht, h, rfl⟩ := ap1_eq h9
 exact hs F1 H1 v t w' Q S1.st.ext (now_of S1.st o1 ht) h fun v' H' F' g rp =>
  post v' H' F' α1 (x1.trans (g.ex S1.st.ext)) (S1.grow g) rp
theorem ca_nil : CA X [] [] := PA.imp pa_nil fun σ H Q ⟨F, α, e, μ, S, h⟩ => h [] H F α Ex.refl S .nil
theorem ca_cons {es : List Expr} {ds : List D} (ha : CE X a da) (hr : CA X es ds) (hs : starEach (a :: es) X.env = (false, eval a X.env) :: starEach es X.env := by rfl) : CA X (a :: es) (da :: ds) :=
 PA.imp (pa_cons ha hr hs) fun σ H Q hX11_ => by
  obtain ⟨F, α, e, μ, S, h⟩ := hX11_
  rw [dArgs_cons] at h
  refine ⟨F, α, e, μ, S, (R.wp_bind h).mono (fun x μ1 h v H1 F1 α1 x1 S1 o1 => ⟨F1, α1, e, μ1, S1, ?_⟩) fun _ _ h => h⟩
  refine (R.wp_bind h).mono (fun xs μ2 h vs H2 F2 α2 x2 S2 o2 => ?_) fun _ _ h => h.mono x1
  exact h (v :: vs) H2 F2 α2 (x1.trans x2) S2 (.cons (o1.mono x2.same x2.pre) o2)
theorem dArgs_len : ∀ {ds : List D} {e : Slots} {μ μ' : Store} {xs : List SV}, dArgs ds e μ = .ok xs μ' → xs.length = ds.length
 | [], e, μ, μ', xs, h => by cases h; rfl
 | d :: ds, e, μ, μ', xs, h => by
  rw [dArgs_cons] at h
  obtain ⟨x, μ1, hx, h⟩ := R.bind_eq_ok h
  obtain ⟨ys, μ2, hy, h⟩ := R.bind_eq_ok h
  cases h
  rw [List.length_cons, List.length_cons, dArgs_len hy]
theorem dArgs_wp_len {ds : List D} {e : Slots} {μ : Store} {Q : List SV → Store → Prop} {E : T → Store → Prop} (h : (dArgs ds e μ).wp Q E) : (dArgs ds e μ).wp (fun xs μ' => xs.length = ds.length ∧ Q xs μ') E := by
 cases q : dArgs ds e μ with
 | ok xs μ' => rw [q] at h; exact ⟨dArgs_len q, h⟩
 | err c μ' => rw [q] at h; exact h
 | bad => rw [q] at h; exact h
theorem small_len {n : Nat} {xs : List SV} {vs : List V} {P : V → SV → Prop} (h : xs.length = n) (o : Paired P vs xs) (hl : n ≤ 1000) : vs.length ≤ sizeLine := by
 have e1 := o.length
 exact Nat.le_of_lt (small1000 (by lia))
theorem ce_tup {es : List Expr} {ds : List D} {x1} (h : CA X es ds) (hl : ds.length ≤ 1000 := by decide) : CE X (.Tuple es x1 pos) (dTup ds) :=
 PE.imp (pe_tup h) fun σ H Q hX11_ => by
  obtain ⟨F, α, e, μ, S, h⟩ := hX11_
  refine ⟨F, α, e, μ, S, (dArgs_wp_len (R.wp_bind h)).mono (fun xs μ1 hX21_ vs H1 F1 α1 x1 S1 o1 => ?_) fun _ _ h => h⟩
  obtain ⟨hn, h⟩ := hX21_
  have h := R.wp_bind h
  cases hz : frzs xs μ1 with
  | err c μ2 =>
   exact absurd hz (frzs_no xs μ1 c μ2)
  | bad => rw [hz] at h; exact h.elim
  | ok ts μ2 =>
   rw [hz] at h
   obtain ⟨F2, s2, n2, S2, r2⟩ := frzs_ok S1.st o1 hz
   refine ⟨small_len hn o1 hl, fun p hp => ?_⟩
   have g : Grow F2 H1 (upd F2 p (.tup vs)) (upd H1 p (.tup vs)) := Grow.new hp
   refine h _ _ (upd F2 p (.tup vs)) α1 (x1.trans ((Ex.of_ne s2 n2).trans (g.ex S2.ext))) ((S1.of s2 (List.prefix_refl _) S2).grow g) ?_
   show Rep X.K _ (.tup ts) _
   rw [Rep]
   exact ⟨p, vs, rfl, SqT.of upd_same, RepL.mono (g.same S2.ext) _ _ r2⟩
noncomputable def tF (X : Cx) (d : D) : TE := fun σ H Q => ∃ F α e μ, Sim X.K F α e μ σ H ∧ (d e μ).wp (fun x μ' => ∃ t, x = .val t ∧
 ∀ p H' F' α', Ex F α H F' α' H' → Sim X.K F' α' e μ' σ H' → H p = none → F' p = none → p ∉ α' → CellOk X.K F' H' p t → Q (.ref p) H') (XPost X F α H e)
noncomputable def CF (X : Cx) (e : Expr) (d : D) : Prop := PE X e (tF X d) ∧ ∀ e μ x μ', d e μ = .ok x μ' → ∃ t, x = .val t
theorem R.wp_val {P : SV → Store → Prop} {r : R SV} {E : T → Store → Prop} (h : r.wp P E) : r.wp (fun x μ => r = .ok x μ ∧ P x μ) E := by
 cases r with
 | ok a μ => exact ⟨rfl, h⟩
 | err c μ => exact h
 | bad => exact h
theorem ice_read {σ : St} {H : Hp} {Q : VK} (h2 : ∀ e μ x μ', da e μ = .ok x μ' → ∃ t, x = .val t) (h : tD X da σ H Q) : tF X da σ H Q := by
 obtain ⟨F, α, e, μ, S, hd⟩ := h
 refine ⟨F, α, e, μ, S, (R.wp_val hd).mono (fun x μ' hX11_ => ?_) fun _ _ h => h⟩
 obtain ⟨hx, post⟩ := hX11_
 obtain ⟨t, rfl⟩ := h2 e μ x μ' hx
 refine ⟨t, rfl, fun p H1 F1 α1 x1 S1 h0 hp hn c => ?_⟩
 obtain ⟨o, ho⟩ := c.there
 have s2 : Same F1 (upd F1 p o) := fun b z hz => by
  rw [upd_ne (fun q => by subst q; rw [hp] at hz; cases hz)]; exact hz
 have st : StOk X.K (upd F1 p o) α1 μ' H1 := by
  refine ⟨fun b z hz => ?_, S1.st.len, S1.st.nd, S1.st.there, fun k b u a' h1 h2 => ?_⟩
  ·by_cases eb : b = p
   ·subst eb; rw [upd_same] at hz; cases hz; exact ho
   ·rw [upd_ne eb] at hz; exact S1.st.ext b z hz
  ·have na : a' ≠ p := fun q => by subst q; exact hn (List.mem_of_getElem? h2)
   obtain ⟨c1, c2⟩ := S1.st.cell k b u a' h1 h2
   refine ⟨fun hb => ⟨by rw [upd_ne na]; exact (c1 hb).1, ?_⟩, fun hb => Rep.mono s2 _ _ (c2 hb)⟩
   have d2 := (c1 hb).2
   cases u with
   | lst ts => obtain ⟨vs, w1, w2⟩ := d2; exact ⟨vs, w1, RepL.mono s2 _ _ w2⟩
   | dct ts => obtain ⟨vs, w1, w2⟩ := d2; exact ⟨vs, w1, RepD.mono s2 _ _ w2⟩
   | _ => exact d2.elim
 refine post _ _ (upd F1 p o) α1 (x1.ice h0 hp) (S1.of s2 (List.prefix_refl _) st) ?_
 show Rep X.K _ t _
 cases t with
 | lst ts => obtain ⟨vs, w1, w2⟩ := c; rw [w1] at ho; cases ho; rw [Rep]; exact ⟨p, vs, rfl, SqL.of upd_same, RepL.mono s2 _ _ w2⟩
 | dct ts => obtain ⟨vs, w1, w2⟩ := c; rw [w1] at ho; cases ho; rw [Rep]; exact ⟨p, vs, rfl, upd_same, RepD.mono s2 _ _ w2⟩
 | _ => exact c.elim
theorem CF.ce (h : CF X a da) : CE X a da := PE.imp h.1 fun σ H Q q => ice_read h.2 q
theorem cell_read {σ : St} {H : Hp} {Q : VK} (h2 : ∀ e μ x μ', da e μ = .ok x μ' → ∃ t, x = .val t) (h : tD X (dCell da) σ H Q) : tF X da σ H Q := by
 obtain ⟨F, α, e, μ, S, hd⟩ := h
 rw [dCell_is] at hd
 refine ⟨F, α, e, μ, S, (R.wp_val (R.wp_bind hd)).mono (fun x μ1 hX11_ => ?_) fun _ _ h => h⟩
 obtain ⟨hx, post⟩ := hX11_
 obtain ⟨t, rfl⟩ := h2 e μ x μ1 hx
 refine ⟨t, rfl, fun p H1 F1 α1 x1 S1 h0 hp hn c => ?_⟩
 obtain ⟨o, ho⟩ := c.there
 have hend : ∀ {k : Nat} {a : Addr}, (α1 ++ [p])[k]? = some a → (k < α1.length ∧ α1[k]? = some a) ∨ (k = α1.length ∧ a = p) := fun {k a} h => by
  by_cases hk : k < α1.length
  ·rw [List.getElem?_append_left hk] at h; exact .inl ⟨hk, h⟩
  ·rw [List.getElem?_append_right (by lia)] at h
   by_cases h0 : k - α1.length = 0
   ·rw [h0] at h; simp at h; exact .inr ⟨by lia, h.symm⟩
   ·rw [List.getElem?_eq_none (by simp; lia)] at h; cases h
 have st : StOk X.K F1 (α1 ++ [p]) (μ1 ++ [(true, t)]) H1 := by
  refine ⟨S1.st.ext, by simp [S1.st.len], ?_, fun k a h => ?_, fun k b u a h1 h2 => ?_⟩
  ·rw [List.nodup_append]
   refine ⟨S1.st.nd, by simp, fun a ha b hb => ?_⟩
   simp at hb
   subst hb
   exact fun q => hn (by rw [← q]; exact ha)
  ·rcases hend h with ⟨_, g⟩ | ⟨_, rfl⟩
   ·exact S1.st.there k a g
   ·exact ⟨o, ho⟩
  ·rcases hend h2 with ⟨hk, g⟩ | ⟨hk, rfl⟩
   ·rw [List.getElem?_append_left (by rw [← S1.st.len]; exact hk)] at h1
    exact S1.st.cell k b u a h1 g
   ·rw [hk, S1.st.len] at h1
    simp at h1
    obtain ⟨rfl, rfl⟩ := h1
    exact ⟨fun _ => ⟨hp, c⟩, fun z => (by cases z)⟩
 refine post _ _ F1 (α1 ++ [p]) (x1.more h0) (S1.of (Same.refl _) (List.prefix_append _ _) st) ⟨p, ?_, rfl⟩
 rw [List.getElem?_append_right (by rw [S1.st.len]; exact Nat.le_refl _), S1.st.len]
 simp
theorem CF.cell (h : CF X a da) : CE X a (dCell da) := PE.imp h.1 fun σ H Q q => cell_read h.2 q
theorem not_mem_of_none {K : PySem.W.Frag} {F H : Hp} {α : List Addr} {μ : Store} {p : Addr} (S : StOk K F α μ H) (h : H p = none) : p ∉ α := fun hm => by
 obtain ⟨k, hk⟩ := List.mem_iff_getElem?.mp hm
 obtain ⟨o, ho⟩ := S.there k p hk
 rw [h] at ho; cases ho
theorem StOk.lay {K : PySem.W.Frag} {F H : Hp} {α : List Addr} {μ : Store} {p : Addr} {o : HO} (S : StOk K F α μ H) (h : H p = none) : StOk K F α μ (upd H p o) := by
 have hup : ∀ c z, H c = some z → (upd H p o) c = some z := fun c z hz => by
  rw [upd_ne (fun q => by subst q; rw [h] at hz; cases hz)]; exact hz
 refine ⟨fun a z hz => hup _ _ (S.ext a z hz), S.len, S.nd, fun k a g => ?_, fun k b u a h1 h2 => ?_⟩
 ·obtain ⟨z, hz⟩ := S.there k a g
  exact ⟨z, hup _ _ hz⟩
 ·obtain ⟨c1, c2⟩ := S.cell k b u a h1 h2
  refine ⟨fun hb => ⟨(c1 hb).1, ?_⟩, c2⟩
  have d2 := (c1 hb).2
  cases u with
  | lst ts => obtain ⟨vs, w1, w2⟩ := d2; exact ⟨vs, hup _ _ w1, w2⟩
  | dct ts => obtain ⟨vs, w1, w2⟩ := d2; exact ⟨vs, hup _ _ w1, w2⟩
  | _ => exact d2.elim
theorem cf_lst {es : List Expr} {ds : List D} (h : CA X es ds) (hl : ds.length ≤ 1000 := by decide) : CF X (.List es pos) (dLst ds) :=
 ⟨PE.imp (pe_lst h) fun σ H Q hX11_ => by
  obtain ⟨F, α, e, μ, S, h⟩ := hX11_
  refine ⟨F, α, e, μ, S, (dArgs_wp_len (R.wp_bind h)).mono (fun xs μ1 hX21_ vs H1 F1 α1 x1 S1 o1 => ?_) fun _ _ h => h⟩
  obtain ⟨hn, h⟩ := hX21_
  have h := R.wp_bind h
  cases hz : frzs xs μ1 with
  | err c μ2 =>
   exact absurd hz (frzs_no xs μ1 c μ2)
  | bad => rw [hz] at h; exact h.elim
  | ok ts μ2 =>
   rw [hz] at h
   obtain ⟨t, e1, post⟩ := h
   cases e1
   obtain ⟨F2, s2, n2, S2, r2⟩ := frzs_ok S1.st o1 hz
   refine ⟨small_len hn o1 hl, fun p hp => ?_⟩
   exact post p _ F2 α1 (x1.trans ((Ex.of_ne s2 n2).trans (Ex.lay hp))) (S1.of s2 (List.prefix_refl _) (S2.lay hp)) (x1.was S1.st hp) (S2.ext.free hp) (not_mem_of_none S2 hp) ⟨vs, upd_same, r2⟩,
 fun e μ x μ' h => by
  unfold dLst at h
  obtain ⟨xs, μ1, hx, h⟩ := R.bind_eq_ok h
  obtain ⟨ts, μ2, hz, h⟩ := R.bind_eq_ok h
  cases h
  exact ⟨_, rfl⟩⟩
theorem dUn_val {f : T → Option T} {e : Slots} {μ μ' : Store} {x : SV} (h : dUn f da e μ = .ok x μ') : ∃ t, x = .val t := by
 unfold dUn at h
 obtain ⟨x, μ1, hx, h⟩ := R.bind_eq_ok h
 obtain ⟨h9, rfl⟩ := R.lift_eq_ok h
 obtain ⟨t, w', ht, h, rfl⟩ := ap1_eq h9
 exact ⟨_, rfl⟩
theorem args1 {σ : St} {H : Hp} {Q : List V → Hp → Prop} (h : tD X da σ H fun v H' => Q [v] H') : tDA X [da] σ H Q := by
 obtain ⟨F, α, e, μ, S, h⟩ := h
 refine ⟨F, α, e, μ, S, ?_⟩
 rw [dArgs_cons]
 cases q : da e μ with
 | err c μ1 => rw [q] at h; exact h
 | bad => rw [q] at h; exact h
 | ok x μ1 =>
  rw [q] at h
  intro vs H1 F1 α1 x1 S1 o1
  cases o1 with
  | cons o1 o2 => cases o2; exact h _ H1 F1 α1 x1 S1 o1
theorem call1 {r : List V → Hp → VK → Prop} {f : T → Option T} (hs : CallSem1 X.K r f) (σ : St) (H : Hp) (Q : VK) (h : tD X (dUn f da) σ H Q) : tCB r (tDA X [da]) σ H Q :=
 args1 (one (r := fun v H Q => r [v] H Q) hs σ H Q h)
theorem call1F {r : List V → Hp → VK → Prop} {f : T → Option T} (hs : CallSemF X.K r f) (σ : St) (H : Hp) (Q : VK) (h : tF X (dUn f da) σ H Q) : tCB r (tDA X [da]) σ H Q := by
 refine args1 ?_
 obtain ⟨F, α, e, μ, S, h⟩ := h
 refine ⟨F, α, e, μ, S, ?_⟩
 refine (R.wp_bind h).mono (fun x μ1 h v H1 F1 α1 x1 S1 o1 => ?_) fun _ _ h => h
 obtain ⟨w, h9, t', e1, post⟩ := R.wp_lift h
 obtain ⟨t, w', ht, h, e2⟩ := ap1_eq h9
 subst e1
 cases e2
 exact hs F1 H1 _ t _ Q S1.st.ext (now_of S1.st o1 ht) h fun p o hp c =>
  post p _ F1 α1 (x1.trans (Ex.lay hp)) (S1.of (Same.refl _) (List.prefix_refl _) (S1.st.lay hp)) (x1.was S1.st hp) (S1.st.ext.free hp) (not_mem_of_none S1.st hp) c
theorem call2 {r : List V → Hp → VK → Prop} {f : T → T → Option T} (hs : CallSem2 X.K r f) (σ : St) (H : Hp) (Q : VK) (h : tD X (dBin f da db) σ H Q) : tCB r (tDA X [da, db]) σ H Q := by
 obtain ⟨F, α, e, μ, S, h⟩ := h
 refine ⟨F, α, e, μ, S, ?_⟩
 rw [dArgs_cons]
 cases q : da e μ with
 | err c μ1 => rw [dBin_is, q] at h; exact h
 | bad => rw [dBin_is, q] at h; exact h
 | ok x μ1 =>
  rw [dBin_is, q] at h
  rw [R.bind_ok] at h ⊢
  rw [dArgs_cons]
  cases q2 : db e μ1 with
  | err c μ2 => rw [q2] at h; exact h
  | bad => rw [q2] at h; exact h
  | ok y μ2 =>
   rw [q2] at h
   intro vs H1 F1 α1 x1 S1 o1
   cases o1 with
   | cons o1 o2 =>
    cases o2 with
    | cons o2 o3 =>
     cases o3
     obtain ⟨w, h9, post⟩ := R.wp_lift h
     obtain ⟨t, u, w', ht, hu, h, rfl⟩ := ap2_eq h9
     exact hs F1 H1 _ _ t u w' Q S1.st.ext (now_of S1.st o1 ht) (now_of S1.st o2 hu) h fun v' H' F' g rp =>
      post v' H' F' α1 (x1.trans (g.ex S1.st.ext)) (S1.grow g) rp
end
end Fw
namespace Fw
open PySem L2
theorem asB_eq {x : SV} {k : Bool} (h : asB x = some k) : x = .val (.bl k) := by
 cases x with
 | val t => cases t <;> first | (cases h; rfl) | cases h
 | cel j => cases h
 | box xs => cases h
theorem wp_test {β : Type} {r : R SV} {f : Bool → Store → R β} {Q : β → Store → Prop} {E : T → Store → Prop} (h : (r.bind fun y μ1 => (R.lift (asB y) μ1).bind f).wp Q E) :
  r.wp (fun x μ => ∃ k, x = .val (.bl k) ∧ (f k μ).wp Q E) E := (R.wp_bind h).mono (fun x μ h => by
 obtain ⟨k, hk, h⟩ := R.wp_lift (R.wp_bind h)
 exact ⟨k, asB_eq hk, h⟩) fun _ _ h => h
noncomputable def CW (X : Cx) (e : Expr) (d : D) : Prop := PW X e (tDT X d)
theorem PW.imp {X : Cx} {e : Expr} {t t' : TT} (h : PW X e t) (i : ∀ σ H Q, t' σ H Q → t σ H Q) : PW X e t' := fun whole pins s σ H Q I q => h whole pins s σ H Q I (i σ H Q q)
theorem tD_of_tDT {X : Cx} {d : D} {σ : St} {H : Hp} {Q : Bool → Hp → Prop} (h : tDT X d σ H Q) : tD X d σ H fun x H' => ∃ k, x = .bl k ∧ Q k H' := by
 obtain ⟨F, α, e, μ, S, h⟩ := h
 refine ⟨F, α, e, μ, S, h.mono (fun x μ' hX11_ v H' F' α' y S' o => ?_) fun _ _ h => h⟩
 obtain ⟨b, hb, post⟩ := hX11_
 subst hb
 exact ⟨b, Rep.of_bl (K := X.K) (F := F') o, post H' F' α' y S'⟩
section
variable {X : Cx} {a b c : Expr} {da db dc : D} {pos : Pos} {rest : List Expr}
theorem ct_val (h : CE X a da) (he : ∀ whole, isTrue a X.env whole = (do let v ← whole; standAt a.pos; holding [v] (truthy v)) := by intro _; rfl) : CT X a da :=
 PT.imp (pt_val h he) fun σ H Q q => tD_of_tDT q
theorem ct_cmp {op : CmpOp} {r : R2} {f : T → T → Option T} (ho : OpR X (compareOp op) r) (hs : OpSem X.K r f) (hm : behindInMarks op b = false) (ha : CE X a da) (hb : CE X b db) : CT X (.Compare a [op] [b] pos) (dBin f da db) :=
 PT.imp (pt_cmpR ho ha hb hm) fun σ H Q q => two hs σ H _ (tD_of_tDT q)
theorem ct_not (h : CT X a da) : CT X (.UnaryOp .Not a pos) (dNot da) := PT.imp (pt_not h) fun σ H Q hX11_ => by
 obtain ⟨F, α, e, μ, S, h⟩ := hX11_
 refine ⟨F, α, e, μ, S, (wp_test h).mono (fun x μ1 ⟨k, hx, b, hb, h⟩ => ⟨k, hx, ?_⟩) fun _ _ h => h⟩
 cases hb
 exact h
theorem cw_one_or (h : CT X a da) : CW X (.BoolOp .Or [a] pos) da := pw_or1 h
theorem CW.ct (h : CW X a da) : CT X a da := PW.pt h
theorem cw_or (ha : CT X a da) (hb : CW X (.BoolOp .Or (b :: rest) pos) db) : CW X (.BoolOp .Or (a :: b :: rest) pos) (dOr da db) :=
 PW.imp (pw_or ha hb) fun σ H Q hX11_ => by
  obtain ⟨F, α, e, μ, S, h⟩ := hX11_
  refine ⟨F, α, e, μ, S, (wp_test h).mono (fun x μ1 ⟨k, hx, h⟩ => ⟨k, hx, fun H1 F1 α1 x1 S1 => ?_⟩) fun _ _ h => h⟩
  cases k with
  | true =>
   rw [if_pos rfl] at h ⊢
   obtain ⟨b, hb, h⟩ := h
   cases hb
   exact h H1 F1 α1 x1 S1
  | false =>
   rw [if_neg Bool.false_ne_true] at h ⊢
   exact ⟨F1, α1, e, μ1, S1, h.mono (fun y μ2 ⟨b, hb, h⟩ => ⟨b, hb, fun H2 F2 α2 x2 S2 => h H2 F2 α2 (x1.trans x2) S2⟩) fun _ _ h => h.mono x1⟩
end
noncomputable def PostS (X : Cx) (F : Hp) (α : List Addr) (H : Hp) (D : Ends) : RS → Prop
 | .nx e' μ' => ∀ σ' H' F' α', Ex F α H F' α' H' → Sim X.K F' α' e' μ' σ' H' → D.nx σ' H'
 | .rt x μ' => ∀ v H' F' α', Ex F α H F' α' H' → StOk X.K F' α' μ' H' → SvOk X.K F' α' v x → D.rt v H'
 | .bk e' μ' => ∀ σ' H' F' α', Ex F α H F' α' H' → Sim X.K F' α' e' μ' σ' H' → D.bk σ' H'
 | .ct e' μ' => ∀ σ' H' F' α', Ex F α H F' α' H' → Sim X.K F' α' e' μ' σ' H' → D.ct σ' H'
 | .err c e' μ' => XPost X F α H e' c μ'
 | .bad => False
theorem PostS.mono {X : Cx} {F F' H H' : Hp} {α α' : List Addr} {D : Ends} {r : RS} (x : Ex F α H F' α' H') (h : PostS X F α H D r) : PostS X F' α' H' D r := by
 cases r with
 | nx e μ => exact fun σ H F2 α2 x2 => h σ H F2 α2 (x.trans x2)
 | rt y μ => exact fun σ H F2 α2 x2 => h σ H F2 α2 (x.trans x2)
 | bk e μ => exact fun σ H F2 α2 x2 => h σ H F2 α2 (x.trans x2)
 | ct e μ => exact fun σ H F2 α2 x2 => h σ H F2 α2 (x.trans x2)
 | err c e μ => exact XPost.mono x h
 | bad => exact h
noncomputable def tDS (X : Cx) (d : DS) : TS := fun D σ H => ∃ F α e μ, Sim X.K F α e μ σ H ∧ PostS X F α H D (d e μ)
noncomputable def CS (X : Cx) (st : Stmt) (d : DS) : Prop := PS X st (tDS X d)
noncomputable def CSs (X : Cx) (st : List Stmt) (d : DS) : Prop := PSs X st (tDS X d)
theorem PostS.toS {α' : Type} {X : Cx} {F H : Hp} {α : List Addr} {D : Ends} {x : R α'} {e : Slots} {f : α' → Store → RS} (h : PostS X F α H D (x.toS e f)) : x.wp (fun a μ => PostS X F α H D (f a μ)) (XPost X F α H e) := by
 cases x with
 | ok a μ => exact h
 | err c μ => exact h
 | bad => exact h
theorem PostS.lift {α' : Type} {X : Cx} {F H : Hp} {α : List Addr} {D : Ends} {o : Option α'} {μ : Store} {e : Slots} {f : α' → Store → RS} (h : PostS X F α H D ((R.lift o μ).toS e f)) : ∃ a, o = some a ∧ PostS X F α H D (f a μ) := R.wp_lift h.toS
theorem PostS.asB {X : Cx} {F H : Hp} {α : List Addr} {D : Ends} {x : R SV} {e : Slots} {f : Bool → Store → RS} (h : PostS X F α H D (x.toS e fun y μ1 => (R.lift (Fw.asB y) μ1).toS e f)) : x.wp (fun y μ1 => ∃ k, y = .val (.bl k) ∧ PostS X F α H D (f k μ1)) (XPost X F α H e) :=
 h.toS.mono (fun y μ h => by
  obtain ⟨k, hk, h⟩ := h.lift
  exact ⟨k, asB_eq hk, h⟩) fun _ _ h => h
section
variable {X : Cx} {st : Stmt} {sts : List Stmt} {d d1 d2 : DS} {e : Expr} {de : D} {pos : Pos}
theorem css_nil : CSs X [] sNil := PSs.imp pss_nil fun D σ H ⟨F, α, e, μ, S, h⟩ => h σ H F α Ex.refl S
theorem css_one (h : CS X st d) : CSs X [st] d := pss_one h
theorem css_cons (h1 : CS X st d1) (h2 : CSs X sts d2) : CSs X (st :: sts) (sSeq d1 d2) := PSs.imp (pss_cons h1 h2) fun D σ H hX11_ => by
 obtain ⟨F, α, e, μ, S, h⟩ := hX11_
 refine ⟨F, α, e, μ, S, ?_⟩
 unfold sSeq at h
 cases q : d1 e μ with
 | nx e1 μ1 =>
  rw [q] at h
  exact fun σ' H' F' α' x S' => ⟨F', α', e1, μ1, S', h.mono x⟩
 | rt x μ1 => rw [q] at h; exact h
 | bk e1 μ1 => rw [q] at h; exact h
 | ct e1 μ1 => rw [q] at h; exact h
 | err c e1 μ1 => rw [q] at h; exact h
 | bad => rw [q] at h; exact h
theorem cs_ret (he : CE X e de) : CS X (.Return (some e) pos) (sRet de) := PS.imp (ps_ret he) fun D σ H ⟨F, α, e, μ, S, h⟩ =>
 ⟨F, α, e, μ, S, (PostS.toS h).mono (fun x μ1 h v H1 F1 α1 x1 S1 o1 => h v H1 F1 α1 x1 S1.st o1) fun _ _ h => h⟩
theorem slot_set {e : Slots} {i j : Nat} {x y : SV} (h : slot (e.set i (some x)) j = some y) : (j = i ∧ y = x) ∨ slot e j = some y := by
 unfold slot at h
 by_cases q : i = j
 ·subst q
  by_cases hl : i < e.length
  ·rw [List.getElem?_set_self hl] at h
   cases h
   exact .inl ⟨rfl, rfl⟩
  ·rw [List.getElem?_eq_none (by rw [List.length_set]; omega)] at h
   cases h
 ·rw [List.getElem?_set_ne q] at h
  exact .inr h
theorem Sim.set {K : PySem.W.Frag} {F H : Hp} {α : List Addr} {e : Slots} {μ : Store} {σ : St} {v : V} {x : SV} {i : Nat} (S : Sim K F α e μ σ H) (o : SvOk K F α v x) : Sim K F α (e.set i (some x)) μ (σ.set i (some v)) H := by
 refine ⟨S.st, fun j y h => ?_, by rw [List.length_set, List.length_set, S.len]⟩
 by_cases q : i = j
 ·subst q
  have hl : i < e.length := by
   unfold slot at h
   by_cases hl : i < e.length
   ·exact hl
   ·rw [List.getElem?_eq_none (by rw [List.length_set]; omega)] at h
    cases h
  have hy : y = x := by
   unfold slot at h
   rw [List.getElem?_set_self hl] at h
   cases h; rfl
  subst hy
  exact ⟨v, by rw [List.getElem?_set_self (by rw [← S.len]; exact hl)], o⟩
 ·rcases slot_set h with ⟨rfl, _⟩ | h
  ·exact absurd rfl q
  ·obtain ⟨w, h1, h2⟩ := S.sl j y h
   exact ⟨w, by rw [List.getElem?_set_ne q]; exact h1, h2⟩
theorem cs_set (i : Nat) {x : Str} {pos' : Pos} (hN : X.N.Nodup) (he : CE X e de) (hi : X.N[i]? = some x := by rfl) (hx : Loc X.env.scope x := by first | exact Or.inl rfl | exact Or.inr rfl) (hs : swapsWith e (some (.Name x pos')) pos.line X.env = pure false := by rfl)
  (hf : X.fn x = true ∨ X.env.scope.names.lookup x = some .local := by first | exact .inl rfl | exact .inr rfl | assumption) : CS X (.Assign [.Name x pos'] e pos) (sSet i de) :=
 PS.imp (ps_set hN hi hx he hs hf) fun D σ H ⟨F, α, e, μ, S, h⟩ =>
  ⟨F, α, e, μ, S, (PostS.toS h).mono (fun x μ1 h v H1 F1 α1 x1 S1 o1 => h _ H1 F1 α1 x1 (S1.set o1)) fun _ _ h => h⟩
theorem cs_if {c : Expr} {as bs : List Stmt} {dc : D} (hc : CT X c dc) (ha : CSs X as d1) (hb : CSs X bs d2) : CS X (.If c as bs pos) (sIf dc d1 d2) := PS.imp (ps_if hc ha hb) fun D σ H hX11_ => by
 obtain ⟨F, α, e, μ, S, h⟩ := hX11_
 refine ⟨F, α, e, μ, S, (PostS.asB h).mono (fun x μ1 ⟨k, hk, h⟩ => ⟨k, hk, fun H1 F1 α1 x1 S1 => ?_⟩) fun _ _ h => h⟩
 cases k with
 | true => exact ⟨F1, α1, e, μ1, S1, PostS.mono x1 h⟩
 | false => exact ⟨F1, α1, e, μ1, S1, PostS.mono x1 h⟩
end
end Fw
namespace Fw
open PySem PySem.Spec PyProof.Rows L2
noncomputable def ItOk (K : PySem.W.Frag) (F : Hp) (α : List Addr) (J : It) (W : Wk) : Prop := ∀ F2 α2 μ2 H2, Same F F2 → α <+: α2 → StOk K F2 α2 μ2 H2 → W.same μ2 →
 (∀ i t, W.items[i]? = some t → J.go i H2 ∧ ∀ x H3, J.yld i H2 x H3 → ∃ F3, Grow F2 H2 F3 H3 ∧ Rep K F3 t x) ∧ J.stop W.items.length H2
noncomputable def tDI (X : Cx) (d : DI) : TI := fun σ H R => ∃ F α e μ, Sim X.K F α e μ σ H ∧ (d e μ).wp (fun W μ' =>
 ∀ J H' F' α', Ex F α H F' α' H' → Sim X.K F' α' e μ' σ H' → ItOk X.K F' α' J W → R J H') (XPost X F α H e)
noncomputable def CI (X : Cx) (tg e : Expr) (d : DI) : Prop := PI X tg e (tDI X d)
theorem PI.imp {X : Cx} {tg e : Expr} {t t' : TI} (h : PI X tg e t) (i : ∀ σ H R, t' σ H R → t σ H R) : PI X tg e t' := fun pins s σ H R I q => h pins s σ H R I (i σ H R q)
noncomputable def iBoth (K : PySem.W.Frag) (tl : TE) : TI := fun σ H R => tl σ H fun x H1 => ∃ a, x = .ref a ∧ (((∃ xs, SqL K H1 a xs) ∧ R (Itl K a) H1) ∨ ((∃ xs, SqT K H1 a xs) ∧ R (Itt K a) H1))
section
variable {X : Cx} {tg : Expr}
theorem pi_both {l : Expr} {tl : TE} (hl : PE X l tl) : PI X tg l (iBoth X.K tl) := by
 intro pins s σ H R I h
 refine thn (hl pins s σ H _ I h) fun v s1 hX11_ => ?_
 obtain ⟨x, H1, I1, r1, q1⟩ := hX11_
 obtain ⟨a, e, q⟩ := q1
 subst e
 cases r1
 rcases q with ⟨⟨xs, hq⟩, q⟩ | ⟨⟨xs, hq⟩, q⟩
 ·obtain ⟨its, rv, p, hz⟩ := I1.list hq
  refine wpAny_pyIter_list p.isList ?_
  refine ⟨s1.heap.objs.size, [s1.heap.objs.size], _, _, H1, rfl, I1.kept (t' := s1.toks) fun b o e => Heap.get?_push_of_some _ e, turn_list a _, ⟨_, Heap.get?_push_size _ rfl, rfl, rfl⟩, fun b hb => ?_, q⟩
  have e : b = s1.heap.objs.size := by simpa using hb
  subst e
  exact I1.fpOk (Nat.le_refl _) (I1.hok.fresh (Nat.le_refl _))
 ·obtain ⟨its, rv, p, hz⟩ := I1.tuple hq
  refine wpAny_pyIter_tuple (show s1.heap.IsTuple a its.toArray from p) ?_
  refine ⟨s1.heap.objs.size, [s1.heap.objs.size], _, _, H1, rfl, I1.kept (t' := s1.toks) fun b o e => Heap.get?_push_of_some _ e, turn_tuple a _, ⟨_, Heap.get?_push_size _ rfl, rfl, rfl⟩, fun b hb => ?_, q⟩
  have e : b = s1.heap.objs.size := by simpa using hb
  subst e
  exact I1.fpOk (Nat.le_refl _) (I1.hok.fresh (Nat.le_refl _))
theorem ci_seq {a : Expr} {da : D} (h : CE X a da) : CI X tg a (iSeq da) := PI.imp (pi_both h) fun σ H R0 hX11_ => by
 obtain ⟨F, α, e, μ, S, h⟩ := hX11_
 refine ⟨F, α, e, μ, S, (R.wp_bind h).mono (fun x μ1 h v H1 F1 α1 x1 S1 o1 => ?_) fun _ _ h => h⟩
 obtain ⟨ts, ht, post⟩ := R.wp_lift (R.wp_bind h)
 obtain ⟨t, hr, ht⟩ := Option.bind_eq_some_iff.mp ht
 have n1 := now_of S1.st o1 hr
 cases t with
 | lst us =>
  cases ht
  obtain ⟨a, vs, rfl, hq, hl⟩ := n1
  refine ⟨a, rfl, .inl ⟨⟨vs, hq⟩, post _ H1 F1 α1 x1 S1 fun F2 α2 μ2 H2 s2 p2 S2 same => ?_⟩⟩
  obtain ⟨a', vs', e1, hq2, hl2⟩ := now_of S2 (o1.mono s2 p2) ((show rd μ2 x = rd μ1 x from same).trans hr)
  cases e1
  refine ⟨fun i t hi => ?_, ⟨vs', hq2, by rw [← hl2.length]; exact Nat.le_refl _⟩⟩
  obtain ⟨v, hv, rv⟩ := hl2.get hi
  exact ⟨⟨vs', v, hq2, hv⟩, fun y H3 hX21_ => by
   obtain ⟨e3, hy⟩ := hX21_
   subst e3
   have := hy vs' hq2
   rw [hv] at this; cases this
   exact ⟨F2, Grow.refl, rv⟩⟩
 | tup us =>
  cases ht
  obtain ⟨a, vs, rfl, hq, hl⟩ := n1
  refine ⟨a, rfl, .inr ⟨⟨vs, Same.seqT S1.st.ext hq⟩, post _ H1 F1 α1 x1 S1 fun F2 α2 μ2 H2 s2 p2 S2 same => ?_⟩⟩
  obtain ⟨a', vs', e1, hq2, hl2⟩ := now_of S2 (o1.mono s2 p2) ((show rd μ2 x = rd μ1 x from same).trans hr)
  have hq2 := Same.seqT S2.ext hq2
  cases e1
  refine ⟨fun i t hi => ?_, ⟨vs', hq2, by rw [← hl2.length]; exact Nat.le_refl _⟩⟩
  obtain ⟨v, hv, rv⟩ := hl2.get hi
  exact ⟨⟨vs', v, hq2, hv⟩, fun y H3 hX31_ => by
   obtain ⟨e3, hy⟩ := hX31_
   subst e3
   have := hy vs' hq2
   rw [hv] at this; cases this
   exact ⟨F2, Grow.refl, rv⟩⟩
 | _ => cases ht
theorem intsT_get : ∀ {n : Nat} {lo : Int} {i : Nat} {t : T}, (intsT lo n)[i]? = some t → i < n ∧ t = .int (lo + i)
 | 0, lo, i, t, h => by simp [intsT] at h
 | n + 1, lo, 0, t, h => by
  simp [intsT] at h
  subst h
  exact ⟨Nat.succ_pos _, by simp⟩
 | n + 1, lo, i + 1, t, h => by
  have h : (intsT (lo + 1) n)[i]? = some t := by simpa [intsT] using h
  obtain ⟨h1, h2⟩ := intsT_get h
  exact ⟨Nat.succ_lt_succ h1, by rw [h2]; congr 1; omega⟩
theorem intsT_length : ∀ (n : Nat) (lo : Int), (intsT lo n).length = n
 | 0, _ => rfl
 | n + 1, lo => by rw [intsT, List.length_cons, intsT_length]
theorem itr_ok {K : PySem.W.Frag} {F : Hp} {α : List Addr} (lo : Int) (n : Nat) : ItOk K F α (Itr lo n) ⟨intsT lo n, fun _ => True⟩ := fun F2 α2 μ2 H2 s2 p2 S2 _ => by
 refine ⟨fun i t hi => ?_, ?_⟩
 ·obtain ⟨h1, rfl⟩ := intsT_get hi
  exact ⟨h1, fun x H3 hX11_ => by obtain ⟨e1, e2⟩ := hX11_; subst e1; subst e2; exact ⟨F2, Grow.refl, Rep.int' _⟩⟩
 ·show n ≤ (intsT lo n).length
  rw [intsT_length]; exact Nat.le_refl _
theorem asInt_eq {t : T} {i : Int} (h : asInt t = some i) : t = .int i := by
 cases t <;> first | (cases h; rfl) | cases h
theorem ci_range1 {a : Expr} {da : D} {p pos : Pos} (hm : X.mg "range" = none) (h : CE X a da) (hg : Gl X "range" := by rfl) (hs : starEach [a] X.env = [(false, eval a X.env)] := by rfl) : CI X tg (.Call (.Name "range" p) [a] [] pos) (iRange1 da) :=
 PI.imp (pi_range1 hg hm (ca_cons h ca_nil hs) hs) fun σ H R0 hX11_ => by
  obtain ⟨F, α, e, μ, S, h⟩ := hX11_
  refine args1 ⟨F, α, e, μ, S, (R.wp_bind h).mono (fun x μ1 h v H1 F1 α1 x1 S1 o1 => ?_) fun _ _ h => h⟩
  obtain ⟨j, ht, h⟩ := R.wp_lift (R.wp_bind h)
  obtain ⟨t, hr, ht⟩ := Option.bind_eq_some_iff.mp ht
  cases asInt_eq ht
  by_cases hb' : rngOk j = true
  ·rw [if_pos hb'] at h
   have hb := rngOk_iff hb'
   cases (now_of S1.st o1 hr).int
   exact ⟨j, rfl, hb.1, hb.2, h _ H1 F1 α1 x1 S1 (itr_ok 0 j.toNat)⟩
  ·rw [if_neg hb'] at h; exact h.elim
end
noncomputable def tBd (K : PySem.W.Frag) (b : BD) : TG := fun v σ H Q => ∃ F α e μ t e', Sim K F α e μ σ H ∧ Rep K F t v ∧ b t e = some e' ∧ ∀ σ', Sim K F α e' μ σ' H → Q σ' H
noncomputable def CB (X : Cx) (tg : Expr) (b : BD) : Prop := PG X tg (tBd X.K b)
theorem PG.imp {X : Cx} {tg : Expr} {t t' : TG} (h : PG X tg t) (i : ∀ v σ H Q, t' v σ H Q → t v σ H Q) : PG X tg t' := fun pins s σ H v u Q I r q => h pins s σ H v u Q I r (i v σ H Q q)
section
variable {X : Cx} {pos : Pos}
theorem cb_name (i : Nat) {x : Str} (hN : X.N.Nodup) (hi : X.N[i]? = some x := by rfl) (hx : Loc X.env.scope x := by first | exact Or.inl rfl | exact Or.inr rfl) (hf : X.fn x = true ∨ X.env.scope.names.lookup x = some .local := by first | exact .inl rfl | exact .inr rfl | assumption) :
  CB X (.Name x pos) (bName i) := PG.imp (pg_name hN hi hx hf) fun v σ H Q hX11_ => by
 obtain ⟨F, α, e, μ, t, e', S, r, hb, q⟩ := hX11_
 cases hb
 exact q _ (S.set (x := .val t) r)
end
section
variable {X : Cx} {tg iter c : Expr} {body : List Stmt} {di : DI} {b : BD} {d : DS} {dc : D} {pos : Pos}
theorem cs_for (hp : PassesOwn (model X.prog X.w) X.A X.env X.xe) (hc : X.calm = true) (hi : CI X tg iter di) (hg : CB X tg b) (hb : CSs X body d) (hs : ∀ x, foldedSetIterable iter X.env x = pure x := by intro _; rfl) :
  CS X (.For tg iter body [] pos) (sFor di b d) := PS.imp (ps_for hp hc hi hg hb hs) fun D σ H hX11_ => by
 obtain ⟨F, α, e, μ, S, h⟩ := hX11_
 refine ⟨F, α, e, μ, S, (PostS.toS h).mono (fun W μ1 h J H1 F1 α1 x1 S1 ok => ?_) fun _ _ h => h⟩
 refine ⟨fun i m σ H => m = W.items.length - i ∧ i ≤ W.items.length ∧ ∃ F2 α2 e2 μ2, Same F1 F2 ∧ α1 <+: α2 ∧ Sim X.K F2 α2 e2 μ2 σ H ∧ PostS X F2 α2 H D (forL W.same b d (W.items.drop i) e2 μ2),
  ⟨_, rfl, Nat.zero_le _, F1, α1, e, μ1, Same.refl _, List.prefix_refl _, S1, PostS.mono x1 h⟩, ?_⟩
 rintro i m σ2 H2 ⟨rfl, hi, F2, α2, e2, μ2, s2, p2, S2, h⟩
 by_cases hlt : i < W.items.length
 ·rw [List.drop_eq_getElem_cons hlt] at h
  unfold forL at h
  by_cases hs : W.same μ2
  ·rw [if_pos hs] at h
   obtain ⟨g1, g2⟩ := ok F2 α2 μ2 H2 s2 p2 S2.st hs
   obtain ⟨go, yl⟩ := g1 i W.items[i] (by simp [hlt])
   cases hb' : b W.items[i] e2 with
   | none => simp only [hb'] at h; exact h.elim
   | some e3 =>
    simp only [hb'] at h
    refine .inr ⟨go, fun σ' H' => ∃ F4 α4 e4 μ4, Same F1 F4 ∧ α1 <+: α4 ∧ Sim X.K F4 α4 e4 μ4 σ' H' ∧ PostS X F4 α4 H' D (forL W.same b d (W.items.drop (i + 1)) e4 μ4),
     fun σ' H' q => ⟨W.items.length - (i + 1), by omega, rfl, hlt, q⟩, fun x H3 y => ?_⟩
    obtain ⟨F3, gr, rp⟩ := yl x H3 y
    have x3 : Ex F2 α2 H2 F3 α2 H3 := gr.ex S2.st.ext
    refine ⟨F3, α2, e2, μ2, W.items[i], e3, S2.grow gr, rp, hb', fun σ4 S4 => ⟨F3, α2, e3, μ2, S4, ?_⟩⟩
    cases q : d e3 μ2 with
    | nx e5 μ5 =>
     simp only [q] at h
     exact fun σ' H' F' α' x S' => ⟨F', α', e5, μ5, s2.trans (x3.same.trans x.same), p2.trans x.pre, S', PostS.mono (x3.trans x) h⟩
    | ct e5 μ5 =>
     simp only [q] at h
     exact fun σ' H' F' α' x S' => ⟨F', α', e5, μ5, s2.trans (x3.same.trans x.same), p2.trans x.pre, S', PostS.mono (x3.trans x) h⟩
    | bk e5 μ5 =>
     simp only [q] at h
     exact fun σ' H' F' α' x S' => h σ' H' F' α' (x3.trans x) S'
    | rt x μ5 =>
     simp only [q] at h
     exact fun v H' F' α' x S' => h v H' F' α' (x3.trans x) S'
    | err c e5 μ5 => simp only [q] at h; exact XPost.mono x3 h
    | bad => simp only [q] at h; exact h
  ·rw [if_neg hs] at h; exact h.elim
 ·have e1 : i = W.items.length := by omega
  subst e1
  rw [List.drop_length] at h
  unfold forL at h
  by_cases hs : W.same μ2
  ·rw [if_pos hs] at h
   obtain ⟨g1, g2⟩ := ok F2 α2 μ2 H2 s2 p2 S2.st hs
   exact .inl ⟨g2, h σ2 H2 F2 α2 Ex.refl S2⟩
  ·rw [if_neg hs] at h; exact h.elim
end
end Fw
namespace L2
open PySem PySem.Spec PyProof.Rows
theorem compLoop_gen {prog : Program} {w : World} {A : Around} {R : Result → Shared → Prop} {s : Shared} {elt target iter : Expr} {ifs : List Expr} {scope : Scope} {pos : Pos} {it acc : Value} {env : Env} (I : Nat → Shared → Prop)
  (turn : ∀ n s, I n s → wpAny (model prog w) A (pyNext it) (fun r s₁ => match r with
   | none => R (.ok .next) s₁
   | some v => wpAny (model prog w) A (letOwnedTupleGo target it v) (fun _ s₁' => wpAny (model prog w) A (assign target env v) (fun _ s₂ =>
     wpAny (model prog w) A (forIn ifs true fun c r => if r = true then do let ok ← isTrue c env (eval c env); pure (ForInStep.yield ok) else pure (ForInStep.yield r)) (fun ok s₃ =>
      if ok = true then wpAny (model prog w) A (eval elt env) (fun x s₄ =>
       wpAny (model prog w) A (call (.builtin "list.append") [acc, x]) (fun _ s₅ => ∃ m, m < n ∧ I m s₅) (fun _ _ => False) s₄) (fun _ _ => False) s₃
      else ∃ m, m < n ∧ I m s₃) (fun _ _ => False) s₂) (fun _ _ => False) s₁') (fun _ _ => False) s₁) (fun _ _ => False) s)
  (n : Nat) (h : I n s) : codeAny (model prog w) A (.compLoop (.ListComp elt [⟨target, iter, ifs, 0⟩] scope pos) 0 it acc env) R s := by
 have no : ∀ {α : Type} {t : Sem α} {Q : α → Shared → Prop} {E : Value → Shared → Prop} {s : Shared}, wpAny (model prog w) A t Q (fun _ _ => False) s → wpAny (model prog w) A t Q E s := fun h => wpAny_mono h (fun _ _ x => x) fun _ _ x => x.elim
 refine codeAny_loop rfl I (fun n s hI => ?_) n h
 show wpAny _ A ((compTurn (.ListComp elt [⟨target, iter, ifs, 0⟩] scope pos) 0 it acc env).onRaise (fun x => do noteFrame x env; theTreesLotGoes x)) _ _ s
 refine wpAny_noted ?_
 rw [compTurn_list]
 refine wpAny_bind (wpAny_standAt (wpAny_bind (wpAny_mono (no (turn n s hI)) (fun r s₁ h₁ => ?_) fun _ _ h' => h')))
 cases r with
 | none => exact wpAny_pure h₁
 | some v =>
  refine wpAny_bind (wpAny_mono (no h₁) (fun _ s₁' h₁' => ?_) fun _ _ h' => h')
  refine wpAny_bind (wpAny_mono (no h₁') (fun _ s₂ h₂ => wpAny_bind (wpAny_mono (no h₂) (fun ok s₃ h₃ => ?_) fun _ _ h' => h')) fun _ _ h' => h')
  cases ok with
  | false => exact wpAny_pure ⟨rfl, h₃⟩
  | true =>
   exact wpAny_bind (wpAny_bind (wpAny_mono (no h₃) (fun x s₄ h₄ => wpAny_bind (wpAny_mono (no h₄) (fun _ s₅ h₅ => wpAny_pure (wpAny_pure ⟨rfl, h₅⟩)) fun _ _ h' => h')) fun _ _ h' => h'))
noncomputable def compCx (X : Cx) (N' : List Str) (scope : Scope) (cl : List (Str × Addr)) (C : Addr) (s₀ : Shared) (H₀ : Hp) (ex : List Addr) : Cx :=
 { X with N := N', s₀ := s₀, H₀ := H₀, env := compEnvC scope cl C X.env, outer := X.stack, stack := X.stack, ex := ex, fn := fun x => (scope.names.lookup x == some NameKind.cell), pn := [], xe := fun _ _ => False }
noncomputable def PIfs (X : Cx) (ifs : List Expr) (t : TT) : Prop :=
 ∀ (pins : List (Addr × Obj)) (s : Shared) (σ : St) (H : Hp) (Q : Bool → Hp → Prop), Inv X pins σ H s → t σ H Q →
  wpAny (model X.prog X.w) X.A (forIn ifs true fun c r => if r = true then do let ok ← isTrue c X.env (eval c X.env); pure (ForInStep.yield ok) else pure (ForInStep.yield r)) (TP X pins σ Q) X.xe s
theorem pifs_nil {X : Cx} : PIfs X [] (fun _ H Q => Q true H) := fun _ _ _ H _ I h => wpAny_tests_nil ⟨H, I, h⟩
theorem pifs_one {X : Cx} {c : Expr} {t : TT} (h : PT X c t) : PIfs X [c] t := fun pins s σ H Q I q => wpAny_tests_one (h pins s σ H Q I q)
noncomputable def iniV (mp : List (Option Nat)) (σ : St) : St := mp.map fun o => o.bind fun j => (σ[j]?).bind id
structure CompScope (X : Cx) (N' : List Str) (scope : Scope) (mp : List (Option Nat)) : Prop where
 kind : scope.kind = .function
 cells : (scope.names.filter fun y => y.2 == NameKind.cell).length ≤ 1
 nd : (scope.names.map (·.1)).Nodup
 loc : ∀ x ∈ scope.names, x.2 = .local → scope.names.lookup x.1 = some .local
 free : ∀ y ∈ scope.names, y.2 = .free → X.env.kindOf y.1 = some .cell ∨ X.env.kindOf y.1 = some .free
 len : mp.length = N'.length
 from_ : ∀ (i j : Nat), mp[i]? = some (some j) → ∃ x, N'[i]? = some x ∧ X.N[j]? = some x ∧ (x, NameKind.free) ∈ scope.names ∧ (X.env.scope.names.lookup x = some .cell ∨ X.env.scope.names.lookup x = some .free)
 seen : ∀ x, (x, NameKind.free) ∈ scope.names → (relabel scope X.env).names.lookup x = some .cell ∨ (relabel scope X.env).names.lookup x = some .free
 back : ∀ x, (relabel scope X.env).names.lookup x = some .cell ∨ (relabel scope X.env).names.lookup x = some .free → (x, NameKind.free) ∈ scope.names ∨ scope.names.lookup x = some .cell
inductive OneCell (names : List (Str × NameKind)) (n : Nat) (h : Heap) (acc : List (Str × Addr)) : Prop where
 | no (h0 : ∀ x, names.lookup x ≠ some .cell) (h1 : cellsFrom n names acc = acc) (h2 : pushCells h names = h)
 | one (y : Str) (h0 : ∀ x, names.lookup x = some .cell → x = y) (hy : names.lookup y = some .cell) (h1 : cellsFrom n names acc = (y, n) :: acc) (h2 : pushCells h names = h.push { cls := .type "cell", data := .cell none })
theorem no_cells : ∀ (names : List (Str × NameKind)) (n : Nat) (h : Heap) (acc : List (Str × Addr)), names.filter (fun y => y.2 == NameKind.cell) = [] → (∀ x, names.lookup x ≠ some .cell) ∧ cellsFrom n names acc = acc ∧ pushCells h names = h
 | [], n, h, acc, _ => ⟨fun x => by simp, rfl, rfl⟩
 | (y, k) :: names, n, h, acc, e => by
  rw [List.filter_cons] at e
  cases hk : (k == NameKind.cell) with
  | true => rw [if_pos (by exact hk)] at e; cases e
  | false =>
   rw [if_neg (by simp [hk])] at e
   obtain ⟨h1, h2, h3⟩ := no_cells names n h acc e
   refine ⟨fun x hx => ?_, ?_, ?_⟩
   ·rw [List.lookup_cons] at hx
    cases hb : x == y with
    | true => rw [hb] at hx; cases hx; simp at hk
    | false => rw [hb] at hx; exact h1 x hx
   ·unfold cellsFrom; rw [if_neg (by simp [hk])]; exact h2
   ·unfold pushCells; rw [if_neg (by simp [hk])]; exact h3
theorem one_cell : ∀ (names : List (Str × NameKind)) (n : Nat) (h : Heap) (acc : List (Str × Addr)), (names.filter fun y => y.2 == NameKind.cell).length ≤ 1 → (names.map (·.1)).Nodup → OneCell names n h acc
 | [], n, h, acc, _, _ => .no (fun x => by simp) rfl rfl
 | (y, k) :: names, n, h, acc, e, nd => by
  rw [List.filter_cons] at e
  have nd' := List.nodup_cons.mp (by simpa using nd : (y :: names.map (·.1)).Nodup)
  cases hk : (k == NameKind.cell) with
  | true =>
   rw [if_pos (by exact hk)] at e
   have e0 : names.filter (fun y => y.2 == NameKind.cell) = [] := List.length_eq_zero_iff.mp (by simpa using e)
   obtain ⟨h1, h2, h3⟩ := no_cells names (n + 1) (h.push { cls := .type "cell", data := .cell none }) ((y, n) :: acc) e0
   have ek : k = .cell := by simpa using hk
   subst ek
   refine .one y (fun x hx => ?_) (by simp) ?_ ?_
   ·rw [List.lookup_cons] at hx
    cases hb : x == y with
    | true => exact eq_of_beq hb
    | false => rw [hb] at hx; exact absurd hx (h1 x)
   ·unfold cellsFrom; rw [if_pos (by simp)]; exact h2
   ·unfold pushCells; rw [if_pos (by simp)]; exact h3
  | false =>
   rw [if_neg (by simp [hk])] at e
   have kn : k ≠ .cell := by simpa using hk
   have lk : ∀ x, ((y, k) :: names).lookup x = some .cell → names.lookup x = some .cell := fun x hx => by
    rw [List.lookup_cons] at hx
    cases hb : x == y with
    | true => rw [hb] at hx; cases hx; exact absurd rfl kn
    | false => rw [hb] at hx; exact hx
   cases one_cell names n h acc e nd'.2 with
   | no h0 h1 h2 =>
    refine .no (fun x hx => h0 x (lk x hx)) ?_ ?_
    ·unfold cellsFrom; rw [if_neg (by simp [hk])]; exact h1
    ·unfold pushCells; rw [if_neg (by simp [hk])]; exact h2
   | one z h0 hz h1 h2 =>
    have zne : (z == y) = false := by
     have : z ≠ y := fun q => by
      subst q
      exact nd'.1 (List.mem_map.mpr ⟨_, PySem.mem_of_lookup hz, rfl⟩)
     simpa using this
    refine .one z (fun x hx => h0 x (lk x hx)) (by rw [List.lookup_cons, zne]; exact hz) ?_ ?_
    ·unfold cellsFrom; rw [if_neg (by simp [hk])]; exact h1
    ·unfold pushCells; rw [if_neg (by simp [hk])]; exact h2
theorem newEnv_comp {M : Model} {A : Around} {E : Value → Shared → Prop} {s : Shared} {scope : Scope} {globals : Addr} {cl : List (Str × Addr)} {qual : Str} {outer : Env} {Q : Env → Shared → Prop}
  (hQ : Q (newEnv scope s.heap.objs.size globals (cellsFrom (s.heap.objs.size + 1) scope.names cl) qual none .none (some outer) builtinsNs) { s with heap := pushCells (s.heap.push { cls := .type "dict", data := .dict #[] }) scope.names }) :
  wpAny M A (newFunctionEnv scope globals cl [] qual none .none (some outer)) Q E s := by
 simp only [newFunctionEnv, Option.isSome_some, if_true]
 refine wpAny_bind (wpAny_alloc ?_)
 refine wpAny_bind (wpAny_layCells _ (fun name kind cells => by cases hkc : kind == NameKind.cell <;> simp [hkc]) _ _ _ _ ?_)
 rw [show ({ s with heap := s.heap.push { cls := .type "dict", data := .dict #[] } } : Shared).heap.objs.size = s.heap.objs.size + 1 from Heap.size_push ..]
 simp only [List.forIn_nil]
 exact wpAny_bind (wpAny_pure (wpAny_pure hQ))
theorem closure_list {env : Env} : ∀ (names : List (Str × NameKind)) (acc : List (Str × Addr)), (∀ y ∈ names, y.2 = .free → ∃ c, env.cells.lookup y.1 = some c) →
  ∃ cl : List (Str × Addr), (forIn names acc fun x r => (if (x.2 == NameKind.free) = true then do let c ← cellOf env x.1; pure (ForInStep.yield ((x.1, c) :: r)) else pure (ForInStep.yield r) : Sem (ForInStep (List (Str × Addr))))) = pure cl ∧
   (∀ x c, cl.lookup x = some c → acc.lookup x = some c ∨ env.cells.lookup x = some c) ∧ (∀ x, (x, NameKind.free) ∈ names ∨ (acc.lookup x).isSome = true → (cl.lookup x).isSome = true)
 | [], acc, _ => ⟨acc, rfl, fun x c h => .inl h, fun x h => by
   rcases h with h | h
   ·simp at h
   ·exact h⟩
 | (n, k) :: r, acc, h => by
  by_cases hk : k = .free
  ·subst hk
   obtain ⟨c, hc⟩ := h (n, .free) List.mem_cons_self rfl
   obtain ⟨cl, e, h1, h2⟩ := closure_list r ((n, c) :: acc) fun y hy => h y (List.mem_cons_of_mem _ hy)
   refine ⟨cl, ?_, fun x d hx => ?_, fun x hx => h2 x ?_⟩
   ·rw [List.forIn_cons]
    have e1 : (NameKind.free == NameKind.free) = true := by decide
    simp only [e1, if_true]
    have e2 : cellOf env n = pure c := by simp only [cellOf, hc]
    rw [e2]
    exact e
   ·rcases h1 x d hx with g | g
    ·rw [List.lookup_cons] at g
     cases q : x == n with
     | true =>
      rw [q] at g
      cases g
      have : x = n := by simpa using q
      subst this
      exact .inr hc
     | false => rw [q] at g; exact .inl g
    ·exact .inr g
   ·rcases hx with hx | hx
    ·rcases List.mem_cons.mp hx with g | g
     ·cases g
      right
      simp [List.lookup_cons]
     ·exact .inl g
    ·right
     rw [List.lookup_cons]
     cases q : x == n with
     | true => rfl
     | false => exact hx
  ·obtain ⟨cl, e, h1, h2⟩ := closure_list r acc fun y hy => h y (List.mem_cons_of_mem _ hy)
   refine ⟨cl, ?_, h1, fun x hx => h2 x ?_⟩
   ·rw [List.forIn_cons]
    have e1 : (k == NameKind.free) = false := by simpa using hk
    simp only [e1, Bool.false_eq_true, if_false]
    exact e
   ·rcases hx with hx | hx
    ·rcases List.mem_cons.mp hx with g | g
     ·cases g
      exact absurd rfl hk
     ·exact .inl g
    ·exact .inr hx
theorem closure_ok {scope : Scope} {env : Env} (h : ∀ y ∈ scope.names, y.2 = .free → ∃ c, env.cells.lookup y.1 = some c) :
  ∃ cl, closureFor scope env = pure cl ∧ (∀ x c, cl.lookup x = some c → env.cells.lookup x = some c) ∧ (∀ x, (x, NameKind.free) ∈ scope.names → (cl.lookup x).isSome = true) := by
 obtain ⟨cl, e, h1, h2⟩ := closure_list (env := env) scope.names [] h
 refine ⟨cl, ?_, fun x c hx => (h1 x c hx).elim (fun g => by simp at g) id, fun x hx => h2 x (.inl hx)⟩
 simp only [closureFor]
 rw [e]
 rfl
section
variable {X : Cx} {elt iter tg : Expr} {ifs : List Expr} {scope : Scope} {pos : Pos} {N' : List Str} {g : TG} {tc : TT} {te : TE} {mp : List (Option Nat)}
noncomputable def tLoop (J : It) (mp : List (Option Nat)) (g : TG) (tc : TT) (te : TE) (σ : St) (H : Hp) (Q : VK) : Prop := ∀ p, H p = none → ∃ W : Nat → Nat → St → Hp → Prop, (∃ m, W 0 m (iniV mp σ) (upd H p (.lst []))) ∧ ∀ i m σ H, W i m σ H →
 (J.stop i H ∧ Q (.ref p) H) ∨ (J.go i H ∧ ∃ N : St → Hp → Prop, (∀ σ' H', N σ' H' → ∃ m', m' < m ∧ W (i + 1) m' σ' H') ∧ ∀ x H', J.yld i H x H' → g x σ H' fun σ2 H2 => tc σ2 H2 fun b H3 =>
  if b = true then te σ2 H3 fun y H4 => rAppend (.ref p) [y] H4 fun _ H5 => N σ2 H5 else N σ2 H3)
theorem iniV_get {mp : List (Option Nat)} {σ : St} {i : Nat} {v : V} (h : (iniV mp σ)[i]? = some (some v)) : ∃ j, mp[i]? = some (some j) ∧ σ[j]? = some (some v) := by
 unfold iniV at h
 rw [List.getElem?_map] at h
 cases q : mp[i]? with
 | none => rw [q] at h; cases h
 | some o =>
  cases o with
  | none => rw [q] at h; cases h
  | some j =>
   rw [q] at h
   refine ⟨j, rfl, ?_⟩
   have h : (σ[j]?).bind id = some v := by simpa using h
   cases z : σ[j]? with
   | none => rw [z] at h; cases h
   | some y => rw [z] at h; have h : y = some v := h; rw [h]
theorem inv_comp {pins : List (Addr × Obj)} {σ : St} {H : Hp} {s₀ : Shared} {C : Addr} {h₁ : Heap} {t' : Nat} {cl : List (Str × Addr)} {fp : List Addr} (hS : CompScope X N' scope mp) (I : Inv X pins σ H s₀)
  (hcl : ∀ x c, cl.lookup x = some c → X.env.cells.lookup x = some c ∨ (scope.names.lookup x = some .cell ∧ c = C + 1 ∧ h₁.IsCell c none ∧ ∀ z, scope.names.lookup z = some .cell → z = x)) (hcs : ∀ x, (x, NameKind.free) ∈ scope.names → (cl.lookup x).isSome = true ∧ ∀ c, cl.lookup x = some c → X.env.cells.lookup x = some c)
  (hcn : ∀ x, scope.names.lookup x = some .cell → cl.lookup x = some (C + 1))
  (hC : C = s₀.heap.objs.size) (keep : ∀ b o, s₀.heap.get? b = some o → h₁.get? b = some o) (ns : ∃ m, h₁.Ns C m) (hf : ∀ b ∈ fp, FpOk X pins H b) (hfp : ∀ b ∈ fp, b < s₀.heap.objs.size) :
  Inv (compCx X N' scope cl C s₀ H fp) [] (iniV mp σ) H { s₀ with heap := h₁, toks := t' } := by
 obtain ⟨m0, ns⟩ := ns
 have cellK : ∀ c v, s₀.heap.IsCell c v → h₁.IsCell c v := fun c v ⟨o, ho, hd⟩ => ⟨o, keep c o ho, hd⟩
 refine ⟨⟨I.ok.mod, hS.kind, I.ok.glob, I.ok.blt, Nat.le_of_eq hC.symm, fun x y c h1 h2 => ?_, fun x hx => ?_, fun x c h hx => ?_, I.ok.hd, I.ok.frames, .inl rfl, fun b hb => ⟨?_, fun x c h => ?_⟩, I.bs, Nat.le_trans I.ok.bsz I.sz,
   fun b o e hb => ?_, fun b hb hs => ?_, I.stack, I.stkFree⟩, rfl, I.bare, Un.kept keep, ⟨m0, ns, fun i x v e1 e2 e3 => ?_⟩, fun x c h => ?_, ?_, fun x c h => ?_, fun p hp => absurd hp (by intro z; cases z), I.hok.kept keep, ?_⟩
 ·have old : ∀ z, X.env.cells.lookup z = some c → c < s₀.heap.objs.size := fun z hz => by
   obtain ⟨v, q⟩ := I.cell z c hz
   exact q.lt
  rcases hcl x c h1 with a | ⟨a, ca, _, ua⟩
  ·rcases hcl y c h2 with b | ⟨b, cb, _⟩
   ·exact I.ok.inj x y c a b
   ·have := old x a
    rw [cb, hC] at this
    exact absurd this (Nat.not_lt.mpr (Nat.le_succ _))
  ·rcases hcl y c h2 with b | ⟨b, cb, _⟩
   ·have := old y b
    rw [ca, hC] at this
    exact absurd this (Nat.not_lt.mpr (Nat.le_succ _))
   ·exact (ua y b).symm
 ·rcases hS.back x hx with q | q
  ·exact Option.isSome_iff_exists.mp (hcs x q).1
  ·exact ⟨_, hcn x q⟩
 ·have q : scope.names.lookup x = some .cell := by
   have h : (scope.names.lookup x == some NameKind.cell) = true := h
   simpa using h
  have hx : cl.lookup x = some c := hx
  rw [hcn x q] at hx
  cases hx
  rw [hC]
  exact Nat.le_succ _
 ·intro z
  have := hfp b hb
  rw [z] at this
  have h2 : C < s₀.heap.objs.size := this
  rw [hC] at h2
  exact Nat.lt_irrefl _ h2
 ·rcases hcl x c h with a | ⟨a, ca, _⟩
  ·exact (hf b hb).2.2.2.2.1 x c a
  ·have := hfp b hb
   rw [ca, hC]
   exact fun q => absurd (q ▸ this) (Nat.not_lt.mpr (Nat.le_succ _))
 ·rcases (hf b hb).2.2.2.1 with z | z
  ·exact I.ok.noex b o e z
  ·exact absurd (Nat.lt_of_lt_of_le (Heap.lt_size e) (Nat.le_trans I.ok.bsz z)) (Nat.lt_irrefl _)
 ·rcases List.mem_cons.mp (I.stkSub b hs) with z | z
  ·exact (hf b hb).2.1 z
  ·exact (hf b hb).2.2.1 z
 ·obtain ⟨j, hj, hv⟩ := iniV_get e2
  obtain ⟨y, y1, y2, y3, y4⟩ := hS.from_ i j hj
  have hy : y = x := by
   have : (compCx X N' scope cl C s₀ H fp).N[i]? = some y := y1
   rw [e1] at this
   exact (Option.some.inj this).symm
  subst hy
  obtain ⟨m, hn, hl⟩ := I.loc
  obtain ⟨u, ru, lk⟩ := hl j y v y2 hv (y4.elim (fun z => .inr (.inl z)) fun z => .inr (.inr z))
  refine ⟨u, ru, ?_⟩
  rcases lk with ⟨hk, _⟩ | ⟨hk, c, hc, hcell⟩
  ·exfalso
   have hk : X.env.scope.names.lookup y = some .local := hk
   rcases y4 with z | z
   ·rw [hk] at z; cases z
   ·rw [hk] at z; cases z
  ·obtain ⟨c', hc'⟩ := Option.isSome_iff_exists.mp (hcs y y3).1
   have : c' = c := by
    have q := (hcs y y3).2 c' hc'
    rw [hc] at q
    exact (Option.some.inj q).symm
   subst this
   exact .inr ⟨hS.seen y y3, c', hc', cellK _ _ hcell⟩
 ·rcases hcl x c h with a | ⟨_, _, a, _⟩
  ·obtain ⟨v, hv⟩ := I.cell x c a
   exact ⟨v, cellK _ _ hv⟩
  ·exact ⟨none, a⟩
 ·show H C = none
  rw [hC]
  exact I.hok.fresh (Nat.le_refl _)
 ·rcases hcl x c h with a | ⟨_, a, _⟩
  ·exact I.freeC x c a
  ·rw [a, hC]; exact I.hok.fresh (Nat.le_succ _)
 ·show (iniV mp σ).length = N'.length
  unfold iniV
  rw [List.length_map, hS.len]
theorem comp_core {pins : List (Addr × Obj)} {s₂ : Shared} {σ : St} {H₂ : Hp} {it : Addr} {fp : List Addr} {tn : Nat → Heap → Prop} {J : It} {cl : List (Str × Addr)} {Q : VK} {RR : Value → Addr → Result → Shared → Prop} {E : Value → Shared → Prop}
  (hS : CompScope X N' scope mp) (hcalm : X.calm = true) (hg : ∀ cl C s₀ H₀ ex, PG (compCx X N' scope cl C s₀ H₀ ex) tg g) (hc : ∀ cl C s₀ H₀ ex, PIfs (compCx X N' scope cl C s₀ H₀ ex) ifs tc) (he : ∀ cl C s₀ H₀ ex, PE (compCx X N' scope cl C s₀ H₀ ex) elt te)
  (hcl : ∀ x c, cl.lookup x = some c → X.env.cells.lookup x = some c) (hcs : ∀ x, (x, NameKind.free) ∈ scope.names → (cl.lookup x).isSome = true)
  (I : Inv X pins σ H₂ s₂) (T : Turn X.prog X.w X.K tg J fp it tn) (st : tn 0 s₂.heap) (hf : ∀ b ∈ fp, FpOk X pins H₂ b) (hq : tLoop J mp g tc te σ H₂ Q)
  (fin : ∀ p C s' H', Inv X pins σ H' s' → FpOk X pins H' C → (∃ m, s'.heap.Ns C m) → Q (.ref p) H' → RR (.ref p) C (.ok .next) s') :
  wpAny (model X.prog X.w) X.A (newList []) (fun acc s₃ => wpAny (model X.prog X.w) X.A (newFunctionEnv scope X.env.globals cl [] X.env.qual none .none (some X.env)) (fun cenv s₄ =>
   codeAny (model X.prog X.w) X.A (.compStart (.ListComp elt [⟨tg, iter, ifs, 0⟩] scope pos) 0 (.ref it) acc { cenv with scope := relabel scope X.env }) (RR acc cenv.locals) s₄) E s₃) E s₂ := by
 refine wpAny_newObj_type (newEnv_comp ?_)
 dsimp only
 have I₃ : Inv X pins σ (upd H₂ s₂.heap.objs.size (.lst [])) { s₂ with heap := s₂.heap.push { cls := .type "list", dict := none, data := .seq ([] : List Value).toArray } } :=
  I.lnew (t' := s₂.toks) (ys := []) .nil (Nat.zero_le _)
 generalize hH2 : s₂.heap.push { cls := .type "list", dict := none, data := .seq ([] : List Value).toArray } = H2 at I₃ ⊢
 obtain ⟨h₁, hh1⟩ : ∃ h₁, h₁ = pushCells (H2.push { cls := .type "dict", data := .dict #[] }) scope.names := ⟨_, rfl⟩
 rw [← hh1]
 have hns₁ : h₁.Ns H2.objs.size (fun _ => none) := by rw [hh1]; exact (Heap.Ns.new H2 (.type "dict")).keeps (pushCells_keeps _ _)
 obtain ⟨cl', hcl'⟩ : ∃ cl', cl' = cellsFrom (H2.objs.size + 1) scope.names cl := ⟨_, rfl⟩
 rw [← hcl']
 have oneC := one_cell scope.names (H2.objs.size + 1) (H2.push { cls := .type "dict", data := .dict #[] }) cl hS.cells hS.nd
 have fc : ∀ x, (x, NameKind.free) ∈ scope.names → scope.names.lookup x ≠ some .cell := fun x hx q => by
  have nd := hS.nd
  have m2 := PySem.mem_of_lookup q
  have key : ∀ l : List (Str × NameKind), (l.map (·.1)).Nodup → (x, NameKind.free) ∈ l → (x, NameKind.cell) ∈ l → False := by
   intro l
   induction l with
   | nil => intro _ h; cases h
   | cons a l ih =>
    intro nd h1 h2
    have nd' := List.nodup_cons.mp (by simpa using nd : (a.1 :: l.map (·.1)).Nodup)
    rcases List.mem_cons.mp h1 with e1 | h1
    ·rcases List.mem_cons.mp h2 with e2 | h2
     ·rw [← e1] at e2; cases e2
     ·exact nd'.1 (List.mem_map.mpr ⟨_, h2, by rw [← e1]⟩)
    ·rcases List.mem_cons.mp h2 with e2 | h2
     ·exact nd'.1 (List.mem_map.mpr ⟨_, h1, by rw [← e2]⟩)
     ·exact ih nd'.2 h1 h2
  exact key _ nd hx m2
 have hcl0 : ∀ x c, cl'.lookup x = some c → X.env.cells.lookup x = some c ∨ (scope.names.lookup x = some .cell ∧ c = H2.objs.size + 1 ∧ h₁.IsCell c none ∧ ∀ z, scope.names.lookup z = some .cell → z = x) := fun x c h => by
  cases oneC with
  | no _ e1 _ => rw [hcl'.trans e1] at h; exact .inl (hcl x c h)
  | one y h0 hy e1 e2 =>
   rw [hcl'.trans e1, List.lookup_cons] at h
   cases hb : x == y with
   | true =>
    rw [hb] at h
    have hxy : x = y := eq_of_beq hb
    have h : some (H2.objs.size + 1) = some c := h
    cases h
    subst hxy
    refine .inr ⟨hy, rfl, ?_, fun z hz => h0 z hz⟩
    rw [hh1.trans e2, ← Heap.size_push H2 { cls := .type "dict", data := .dict #[] }]
    exact ⟨_, Heap.get?_push_size _ rfl, rfl⟩
   | false => rw [hb] at h; exact .inl (hcl x c h)
 have hcs0 : ∀ x, (x, NameKind.free) ∈ scope.names → (cl'.lookup x).isSome = true ∧ ∀ c, cl'.lookup x = some c → X.env.cells.lookup x = some c := fun x hx => by
  have el : cl'.lookup x = cl.lookup x := by
   cases oneC with
   | no _ e1 _ => rw [hcl'.trans e1]
   | one y h0 hy e1 e2 =>
    rw [hcl'.trans e1, List.lookup_cons]
    cases hb : x == y with
    | true => exact absurd ((eq_of_beq hb) ▸ hy) (fc x hx)
    | false => rfl
  rw [el]
  exact ⟨hcs x hx, fun c hc => hcl x c hc⟩
 have hcn0 : ∀ x, scope.names.lookup x = some .cell → cl'.lookup x = some (H2.objs.size + 1) := fun x hx => by
  cases oneC with
  | no h0 _ _ => exact absurd hx (h0 x)
  | one y h0 hy e1 e2 =>
   rw [hcl'.trans e1, h0 x hx, List.lookup_cons]
   simp
 have fresh : H₂ s₂.heap.objs.size = none := I.hok.fresh (Nat.le_refl _)
 have fpl : ∀ b ∈ fp, b < s₂.heap.objs.size := fun b hb => by
  obtain ⟨o, ho, _⟩ := T.obj _ _ st b hb
  exact Heap.lt_size ho
 have hszl : s₂.heap.objs.size ≤ H2.objs.size := by rw [← hH2, Heap.size_push]; exact Nat.le_succ _
 have old2 : ∀ b o, s₂.heap.get? b = some o → H2.get? b = some o := fun b o e => by rw [← hH2]; exact Heap.get?_push_of_some _ e
 have old : ∀ b o, H2.get? b = some o → h₁.get? b = some o := fun b o e => by rw [hh1]; exact pushCells_keeps _ _ _ _ (Heap.get?_push_of_some _ e)
 have hf3 : ∀ b ∈ fp, FpOk X pins (upd H₂ s₂.heap.objs.size (.lst [])) b := fun b hb => ⟨by rw [upd_ne (Nat.ne_of_lt (fpl b hb))]; exact (hf b hb).1, (hf b hb).2⟩
 have I₄ := inv_comp (t' := s₂.toks) (N' := N') (C := H2.objs.size) (h₁ := h₁) hS I₃ hcl0 hcs0 hcn0 rfl old ⟨_, hns₁⟩ hf3 fun b hb => Nat.lt_of_lt_of_le (fpl b hb) hszl
 have st4 : tn 0 h₁ := T.keep _ _ _ st fun b hb o e => old b o (old2 b o e)
 obtain ⟨W, ⟨m0, w0⟩, turn⟩ := hq s₂.heap.objs.size fresh
 generalize hX' : compCx X N' scope cl' H2.objs.size { s₂ with heap := H2 } (upd H₂ s₂.heap.objs.size (.lst [])) fp = X' at I₄
 have hg' : PG X' tg g := hX' ▸ hg _ _ _ _ _
 have hc' : PIfs X' ifs tc := hX' ▸ hc _ _ _ _ _
 have he' : PE X' elt te := hX' ▸ he _ _ _ _ _
 have e1 : X'.prog = X.prog := by rw [← hX']; rfl
 have e2 : X'.w = X.w := by rw [← hX']; rfl
 have e3 : X'.K = X.K := by rw [← hX']; rfl
 have e4 : X'.calm = true := by rw [← hX']; exact hcalm
 have e5 : X'.A = X.A := by rw [← hX']; rfl
 have e6 : X'.env = compEnvC scope cl' H2.objs.size X.env := by rw [← hX']; rfl
 have e7 : X'.xe = fun _ _ => False := by rw [← hX']; rfl
 have stat : ∀ {H' : Hp}, (∀ b ∈ fp, H' b = none) → ∀ b ∈ fp, FpOk X' [] H' b := fun {H'} hn b hb => by
  refine ⟨hn b hb, ?_, ?_, ?_, fun x c h => ?_, fun p hp => ?_⟩
  ·rw [e6]; exact Nat.ne_of_lt (Nat.lt_of_lt_of_le (fpl b hb) hszl)
  ·rw [← hX']
   intro hs
   rcases List.mem_cons.mp (I.stkSub b hs) with z | z
   ·exact (hf b hb).2.1 z
   ·exact (hf b hb).2.2.1 z
  ·rw [← hX']; exact .inl hb
  ·rw [e6] at h
   rcases hcl0 x c h with a | ⟨_, a, _⟩
   ·exact (hf b hb).2.2.2.2.1 x c a
   ·rw [a]
    have q1 := Nat.lt_of_lt_of_le (fpl b hb) hszl
    exact fun q => absurd (q ▸ q1) (Nat.not_lt.mpr (Nat.le_succ _))
  ·rw [← hX'] at hp; cases hp
 have loop : ∀ s₃ : Shared, Inv X' [] (iniV mp σ) (upd H₂ s₂.heap.objs.size (.lst [])) s₃ → tn 0 s₃.heap →
   codeAny (model X.prog X.w) X.A (.compLoop (.ListComp elt [⟨tg, iter, ifs, 0⟩] scope pos) 0 (.ref it) (.ref s₂.heap.objs.size) (compEnvC scope cl' H2.objs.size X.env)) (RR (.ref s₂.heap.objs.size) H2.objs.size) s₃ := by
  intro s₃ I₃' st3
  refine compLoop_gen (fun n s' => ∃ i σ' H', Inv X' [] σ' H' s' ∧ tn i s'.heap ∧ (∀ b ∈ fp, H' b = none) ∧ W i n σ' H') ?_ m0 ⟨0, _, _, I₃', st3, fun b hb => (hf3 b hb).1, w0⟩
  rintro n s4 ⟨i, σ4, H4, I4, st4, fr4, w4⟩
  rcases turn i n σ4 H4 w4 with ⟨stop, qn⟩ | ⟨go, N, hN, step⟩
  ·have q := T.done X' e1 e2 e3 e4 i [] s4 σ4 H4 (fun _ _ => False) I4 (stat fr4) st4 stop
   rw [e5] at q
   refine thn q fun r s5 hX11_ => ?_
   obtain ⟨hr, I5⟩ := hX11_
   subst hr
   have I6 : Inv X pins σ H4 s5 := by
    subst hX'
    exact I₃.call' (ch := fp) I5.os I5.base I5.hok I5.bare fun b hb => ⟨(hf3 b hb).2.2.2.1, (hf3 b hb).2.1, (hf3 b hb).2.2.2.2.1, (hf3 b hb).2.2.2.2.2⟩
   have hC : H4 H2.objs.size = none := by
    have := I5.free
    rw [e6] at this
    exact this
   have hns : ∃ m, s5.heap.Ns H2.objs.size m := by
    obtain ⟨m, hm, _⟩ := I5.loc
    rw [e6] at hm
    exact ⟨m, hm⟩
   exact fin _ _ s5 H4 I6 (I₃.fpOk (Nat.le_refl _) hC) hns qn
  ·have q := T.item X' e1 e2 e3 e4 i [] s4 σ4 H4 (fun _ _ => False) I4 (stat fr4) st4 go
   rw [e5] at q
   refine thn q fun r s5 hX21_ => ?_
   obtain ⟨u, hr, h5⟩ := hX21_
   subst hr
   refine thn h5 fun _ s6 hX31_ => ?_
   obtain ⟨x, H6, I6, r6, y6, st6, fr6⟩ := hX31_
   have I6' := I6.pinned (stat fr6) (T.obj _ _ st6)
   have g6 := hg' _ s6 σ4 H6 x u _ I6' r6 (step x H6 y6)
   rw [e1, e2, e5, e6, e7] at g6
   refine thn g6 fun _ s7 hX41_ => ?_
   obtain ⟨σ7, H7, I7, q7⟩ := hX41_
   have c7 := hc' _ s7 σ7 H7 _ I7 q7
   rw [e1, e2, e5, e6, e7] at c7
   refine thn c7 fun ok s8 hX51_ => ?_
   obtain ⟨H8, I8, q8⟩ := hX51_
   have again : ∀ {s9 : Shared} {σ9 : St} {H9 : Hp}, Inv X' ([] ++ pinsAt fp s6.heap) σ9 H9 s9 → N σ9 H9 → ∃ m, m < n ∧ ∃ i σ' H', Inv X' [] σ' H' s9 ∧ tn i s9.heap ∧ (∀ b ∈ fp, H' b = none) ∧ W i m σ' H' := fun {s9 σ9 H9} I9 n9 => by
    obtain ⟨m', hm, w9⟩ := hN σ9 H9 n9
    refine ⟨m', hm, i + 1, σ9, H9, I9.unpinned, T.keep _ _ _ st6 fun b hb o e => (I9.pin (b, o) (List.mem_append_right _ (List.mem_append_right _ (mem_pinsAt hb e)))).1, fun b hb => ?_, w9⟩
    obtain ⟨o, e, d⟩ := T.obj _ _ st6 b hb
    exact (I9.pin (b, o) (List.mem_append_right _ (List.mem_append_right _ (mem_pinsAt hb e)))).2.1
   cases ok with
   | false =>
    rw [if_neg Bool.false_ne_true] at q8 ⊢
    exact again I8 q8
   | true =>
    rw [if_pos rfl] at q8 ⊢
    have l8 := he' _ s8 σ7 H8 _ I8 q8
    rw [e1, e2, e5, e6, e7] at l8
    refine thn l8 fun y s9 hX61_ => ?_
    obtain ⟨z, H9, I9, r9, q9⟩ := hX61_
    have a9 := (mt_append (X := X')) _ s9 σ7 H9 (.ref s₂.heap.objs.size) [z] (.ref s₂.heap.objs.size) [y] _ I9 rfl (.cons r9 .nil) q9
    rw [e1, e2, e5, e7] at a9
    refine thn a9 fun _ s10 ⟨_, H10, I10, _, q10⟩ => again I10 q10
 refine codeAny_compStart_list (loop _ I₄ st4) ?_
 exact T.self X.A 0 _ _ _ st4 (loop _ I₄ st4)
theorem pe_comp {wi : TI} (hx : X.xe = fun _ _ => False) (hS : CompScope X N' scope mp) (hcalm : X.calm = true) (hi : PI X tg iter wi) (hg : ∀ cl C s₀ H₀ ex, PG (compCx X N' scope cl C s₀ H₀ ex) tg g) (hc : ∀ cl C s₀ H₀ ex, PIfs (compCx X N' scope cl C s₀ H₀ ex) ifs tc)
  (he : ∀ cl C s₀ H₀ ex, PE (compCx X N' scope cl C s₀ H₀ ex) elt te) (hs : ∀ x, foldedSetIterable iter X.env x = pure x := by intro _; rfl) :
  PE X (.ListComp elt [⟨tg, iter, ifs, 0⟩] scope pos) (fun σ H Q => wi σ H fun J H1 => tLoop J mp g tc te σ H1 Q) := by
 intro pins s σ H Q I h
 have hfr : ∀ y ∈ scope.names, y.2 = .free → ∃ c, X.env.cells.lookup y.1 = some c := fun y hy hk => I.ok.has y.1 (hS.free y hy hk)
 obtain ⟨cl, hcl, h1, h2⟩ := closure_ok hfr
 rw [eval_ListComp]
 refine wpAny_comprehension_free (use := none) rfl hs hcl hS.kind hS.loc (thn (hi pins s σ H _ I h) fun v s1 q1 => thn q1 fun itv s2 hX11_ => ?_)
 obtain ⟨it, fp, tn, J, H2, e, I2, T, st2, f2, q2⟩ := hX11_
 subst e
 refine comp_core (RR := fun acc C => compPost (model X.prog X.w) X.A X.xe none (EP X pins σ Q) acc C) hS hcalm hg hc he h1 h2 I2 T st2 f2 q2 fun p C s' H' I' fp' ns q' => ?_
 obtain ⟨m, hm⟩ := ns
 refine ⟨m, hm, fun h' sb => ⟨.ref p, H', ?_, rfl, q'⟩⟩
 exact I'.turned (t' := s'.toks) (fun b o hb e => (sb.2 b hb).trans e) fp'.1 fp'.2.1 fp'.2.2.2.1 fp'.2.2.2.2.1 fp'.2.2.2.2.2
end
end L2
namespace Fw
open PySem PySem.Spec PyProof.Rows L2
section
variable {K : PySem.W.Frag} {F F' F1 F2 H H' H1 H2 : Hp} {α α' α1 α2 : List Addr} {μ μ' : Store} {e : Slots} {σ : L2.St}
theorem slot_ini {mp : List (Option Nat)} {i : Nat} {x : SV} (h : slot (ini mp e) i = some x) : ∃ j, mp[i]? = some (some j) ∧ slot e j = some x := by
 unfold slot ini at h
 rw [List.getElem?_map] at h
 cases q : mp[i]? with
 | none => rw [q] at h; cases h
 | some o =>
  cases o with
  | none => rw [q] at h; cases h
  | some j =>
   rw [q] at h
   refine ⟨j, rfl, ?_⟩
   simp only [Option.map_some, Option.bind_some] at h
   cases z : slot e j with
   | none => rw [z] at h; cases h
   | some y => rw [z] at h; cases h; rfl
theorem Sim.ini (S : Sim K F α e μ σ H) (mp : List (Option Nat)) : Sim K F α (Fw.ini mp e) μ (iniV mp σ) H := by
 refine ⟨S.st, fun i x h => ?_, by unfold Fw.ini iniV; rw [List.length_map, List.length_map]⟩
 obtain ⟨j, hj, hx⟩ := slot_ini h
 obtain ⟨v, hv, ok⟩ := S.sl j x hx
 refine ⟨v, ?_, ok⟩
 unfold iniV
 rw [List.getElem?_map, hj]
 simp [hv]
theorem StOk.poke {p : Addr} {o : HO} (S : StOk K F α μ H) (h1 : F p = none) (h2 : p ∉ α) : StOk K F α μ (upd H p o) := by
 have na : ∀ {k : Nat} {a : Addr}, α[k]? = some a → a ≠ p := fun {k a} h q => h2 (by rw [← q]; exact List.mem_of_getElem? h)
 refine ⟨fun a z hz => ?_, S.len, S.nd, fun k a g => ?_, fun k b u a g1 g2 => ?_⟩
 ·rw [upd_ne (fun q => by subst q; rw [h1] at hz; cases hz)]; exact S.ext a z hz
 ·rw [upd_ne (na g)]; exact S.there k a g
 ·obtain ⟨c1, c2⟩ := S.cell k b u a g1 g2
  refine ⟨fun hb => ⟨(c1 hb).1, ?_⟩, c2⟩
  have d2 := (c1 hb).2
  cases u with
  | lst ts => obtain ⟨vs, w1, w2⟩ := d2; exact ⟨vs, by rw [upd_ne (na g2)]; exact w1, w2⟩
  | dct ts => obtain ⟨vs, w1, w2⟩ := d2; exact ⟨vs, by rw [upd_ne (na g2)]; exact w1, w2⟩
  | _ => exact d2.elim
theorem Ex.poke {p : Addr} {o : HO} (x : Ex F α H F' α' H') (h : H p = none) : Ex F α H F' α' (upd H' p o) := ⟨x.same, x.pre, fun b z h1 h2 h3 => by
 obtain ⟨g1, g2, g3⟩ := x.fr b z h1 h2 h3
 exact ⟨by rw [upd_ne (fun q => by subst q; rw [h] at h1; cases h1)]; exact g1, g2, g3⟩⟩
theorem Sim.back {e' : Slots} (S : Sim K F α e' μ σ H) (hl : e.length = e'.length) (h : ∀ j x, slot e j = some x → slot e' j = some x) : Sim K F α e μ σ H :=
 ⟨S.st, fun i x g => S.sl i x (h i x g), by rw [hl]; exact S.len⟩
end
section
variable {X : Cx} {elt iter tg : Expr} {ifs : List Expr} {scope : Scope} {pos : Pos} {N' : List Str} {mp : List (Option Nat)} {di : DI} {b : BD} {dc d : D}
noncomputable def Leaves (mp : List (Option Nat)) (b : BD) : Prop := ∀ t e e1, b t (ini mp e) = some e1 → (ini mp e).length = e1.length ∧ ∀ j x, slot (ini mp e) j = some x → slot e1 j = some x
theorem slot_set_ne {e : Slots} {i j : Nat} {x : SV} (h : i ≠ j) : slot (e.set i (some x)) j = slot e j := by
 unfold slot
 rw [List.getElem?_set_ne h]
theorem leaves_name {i : Nat} (h : mp[i]? = some none) : Leaves mp (bName i) := fun t e e1 hb => by
 cases hb
 refine ⟨by rw [List.length_set], fun j x hx => ?_⟩
 obtain ⟨k, hk, _⟩ := slot_ini hx
 rw [slot_set_ne (fun q => by subst q; rw [h] at hk; cases hk)]; exact hx
theorem pifs_true {X' : Cx} : PIfs X' [] (tDT X' (dC (.bl true))) := fun pins s σ H Q I hX11_ => by
 obtain ⟨F, α, e, μ, S, h⟩ := hX11_
 obtain ⟨b, hb, h⟩ := h
 cases hb
 exact pifs_nil pins s σ H Q I (h H F α Ex.refl S)
theorem pifs_test {X' : Cx} {c : Expr} (h : CT X' c dc) : PIfs X' [c] (tDT X' dc) := pifs_one h
noncomputable def oD (K : PySem.W.Frag) (d : D) : TE := fun σ H Q => ∃ F α e μ x μ', Sim K F α e μ σ H ∧ d e μ = .ok x μ' ∧ Post K F α H e σ Q x μ'
noncomputable def oDT (K : PySem.W.Frag) (d : D) : TT := fun σ H Q => ∃ F α e μ b μ', Sim K F α e μ σ H ∧ d e μ = .ok (.val (.bl b)) μ' ∧
 ∀ H' F' α', Ex F α H F' α' H' → Sim K F' α' e μ' σ H' → Q b H'
theorem oD_of {X' : Cx} {σ : L2.St} {H : Hp} {Q : VK} (h : oD X'.K d σ H Q) : tD X' d σ H Q := by
 obtain ⟨F, α, e, μ, x, μ', S, h, p⟩ := h
 exact ⟨F, α, e, μ, S, by rw [h]; exact p⟩
theorem oDT_of {X' : Cx} {σ : L2.St} {H : Hp} {Q : Bool → Hp → Prop} (h : oDT X'.K d σ H Q) : tDT X' d σ H Q := by
 obtain ⟨F, α, e, μ, b, μ', S, h, p⟩ := h
 exact ⟨F, α, e, μ, S, by rw [h]; exact ⟨b, rfl, p⟩⟩
inductive CIv (K : PySem.W.Frag) (same : Store → Prop) (items : List T) (b : BD) (dc d : D) (e0 : Slots) (us : List T) (μ' : Store) (F1 : Hp) (α1 : List Addr) (H1 : Hp) (p : Addr) (i : Nat) (σ' : L2.St) (Hc : Hp) : Prop
 | mk (F2 : Hp) (α2 : List Addr) (μ3 : Store) (done rest : List T) (vs : List V) (x2 : Ex F1 α1 H1 F2 α2 Hc) (S2 : Sim K F2 α2 e0 μ3 σ' Hc) (n1 : F2 p = none) (n2 : p ∉ α2) (hv : Hc p = some (.lst vs)) (hr : RepL K F2 done vs) (hdl : done.length ≤ i) (hL : compL same b dc d e0 (items.drop i) μ3 = .ok rest μ') (hu : us = done ++ rest)
theorem comp_read {σ : L2.St} {H : Hp} {Q : VK} (hb : Leaves mp b) (h : tF X (dComp di mp b dc d) σ H Q) : tDI X di σ H fun J H1 => tLoop J mp (tBd X.K b) (oDT X.K dc) (oD X.K d) σ H1 Q := by
 obtain ⟨F, α, e, μ, S, h⟩ := h
 refine ⟨F, α, e, μ, S, (R.wp_bind h).mono (fun W μ1 h J H1 F1 α1 x1 S1 ok => ?_) fun _ _ h => h⟩
 cases hL : (compL W.same b dc d (ini mp e) W.items μ1).calm with
 | err c μ' => cases q : compL W.same b dc d (ini mp e) W.items μ1 <;> rw [q] at hL <;> cases hL
 | bad => rw [hL] at h; exact h.elim
 | ok us μ' =>
 rw [hL] at h
 have hL := R.calm_eq hL
 rw [R.bind_ok] at h
 by_cases hz : W.items.length ≤ szL
 ·rw [if_pos hz] at h
  obtain ⟨t, et, post⟩ := h
  cases et
  intro p hp
  refine ⟨fun i m σ' Hc => m = W.items.length - i ∧ i ≤ W.items.length ∧ CIv X.K W.same W.items b dc d (ini mp e) us μ' F1 α1 H1 p i σ' Hc,
   ⟨_, rfl, Nat.zero_le _, .mk F1 α1 μ1 [] us [] (Ex.lay hp) ((S1.ini mp).of (Same.refl _) (List.prefix_refl _) (S1.st.lay hp)) (S1.st.ext.free hp) (not_mem_of_none S1.st hp) upd_same RepL.nil' (Nat.zero_le _) hL rfl⟩, ?_⟩
  rintro i m σ2 H2 ⟨rfl, hi', hC⟩
  obtain ⟨F2, α2, μ3, done, rest, vs, x2, S2, n1, n2, hv, hr, hdl, hL, hu⟩ := hC
  by_cases hlt : i < W.items.length
  ·rw [List.drop_eq_getElem_cons hlt] at hL
   unfold compL at hL
   by_cases hs : W.same μ3
   ·rw [if_pos hs] at hL
    obtain ⟨g1, g2⟩ := ok F2 α2 μ3 H2 x2.same x2.pre S2.st hs
    obtain ⟨go, yl⟩ := g1 i W.items[i] (by simp [hlt])
    cases hb' : b W.items[i] (ini mp e) with
    | none => simp only [hb'] at hL; cases hL
    | some e3 =>
     simp only [hb'] at hL
     obtain ⟨y0, μ4, hy, hL⟩ := R.bind_eq_ok hL
     have hy := R.calm_eq hy
     obtain ⟨k, μ5, hk, hK⟩ := R.bind_eq_ok hL
     obtain ⟨hk1, hk2⟩ := R.lift_eq_ok hk
     subst hk2
     have ek := asB_eq hk1
     rw [ek] at hy
     clear hL hk hk1 ek
     obtain ⟨hl3, hb3⟩ := hb _ _ _ hb'
     refine .inr ⟨go, CIv X.K W.same W.items b dc d (ini mp e) us μ' F1 α1 H1 p (i + 1), fun σ' H' q => ⟨W.items.length - (i + 1), by lia, rfl, hlt, q⟩, fun x H3 yy => ?_⟩
     obtain ⟨F3, gr, rp⟩ := yl x H3 yy
     have x3 : Ex F2 α2 H2 F3 α2 H3 := gr.ex S2.st.ext
     refine ⟨F3, α2, ini mp e, μ3, W.items[i], e3, S2.grow gr, rp, hb', fun σ4 S4 => ?_⟩
     refine ⟨F3, α2, e3, μ3, k, μ4, S4, hy, fun H5 F5 α5 x5 S5 => ?_⟩
     obtain ⟨v3, n3, m3⟩ := x3.fr p _ hv n1 n2
     obtain ⟨v5, n5, m5⟩ := x5.fr p _ v3 n3 m3
     cases k with
     | false =>
      rw [if_neg Bool.false_ne_true] at hK ⊢
      exact .mk F5 α5 μ4 done rest vs (x2.trans (x3.trans x5)) (S5.back hl3 hb3) n5 m5 v5 (RepL.mono (x3.same.trans x5.same) _ _ hr) (Nat.le_succ_of_le hdl) hK hu
     | true =>
      rw [if_pos rfl] at hK ⊢
      obtain ⟨y2, μ6, hd, hK⟩ := R.bind_eq_ok hK
      have hd := R.calm_eq hd
      obtain ⟨u, μ7, hfz, hK⟩ := R.bind_eq_ok hK
      obtain ⟨us', μ8, hL2, hK⟩ := R.bind_eq_ok hK
      cases hK
      refine ⟨F5, α5, e3, μ4, y2, μ6, S5, hd, fun v H6 F6 α6 x6 S6 o6 => ?_⟩
      obtain ⟨v6, n6, m6⟩ := x6.fr p _ v5 n5 m5
      obtain ⟨F7, s7, ne7, S7, r7⟩ := frz_ok S6.st o6 hfz
      have hvl : vs.length < sizeLine := by
       have := hr.length
       have hz' : W.items.length ≤ sizeLine := hz
       lia
      have n7 : F7 p = none := by rw [ne7 p m6]; exact n6
      have x7 : Ex F1 α1 H1 F7 α6 H6 := x2.trans (x3.trans (x5.trans (x6.trans (Ex.of_ne s7 ne7))))
      refine ⟨p, vs, v, rfl, rfl, v6, hvl, .mk F7 α6 μ7 (done ++ [u]) us' (vs ++ [v]) (x7.poke hp) ?_ n7 m6 upd_same ?_ ?_ hL2 ?_⟩
      ·exact ((S6.back hl3 hb3).of s7 (List.prefix_refl _) S7).of (Same.refl _) (List.prefix_refl _) (S7.poke n7 m6)
      ·exact (RepL.mono (x3.same.trans (x5.same.trans (x6.same.trans s7))) _ _ hr).append (RepL.one r7)
      ·rw [List.length_append, List.length_singleton]; lia
      ·rw [hu, List.append_assoc]; rfl
   ·rw [if_neg hs] at hL; cases hL
  ·have e1 : i = W.items.length := by lia
   subst e1
   rw [List.drop_length] at hL
   unfold compL at hL
   by_cases hs : W.same μ3
   ·rw [if_pos hs] at hL
    cases hL
    obtain ⟨g1, g2⟩ := ok F2 α2 _ H2 x2.same x2.pre S2.st hs
    refine .inl ⟨g2, post p H2 F2 α2 (x1.trans x2) (S1.of x2.same x2.pre S2.st) (x1.was S1.st hp) n1 n2 ⟨vs, hv, ?_⟩⟩
    rw [hu, List.append_nil]; exact hr
   ·rw [if_neg hs] at hL; cases hL
 ·rw [if_neg hz] at h; exact h.elim
theorem dComp_val {e : Slots} {μ μ' : Store} {x : SV} (h : dComp di mp b dc d e μ = .ok x μ') : ∃ t, x = .val t := by
 unfold dComp at h
 obtain ⟨W, μ1, hW, h⟩ := R.bind_eq_ok h
 obtain ⟨us, μ2, hL, h⟩ := R.bind_eq_ok h
 by_cases hz : W.items.length ≤ szL
 ·rw [if_pos hz] at h; cases h; exact ⟨_, rfl⟩
 ·rw [if_neg hz] at h; cases h
theorem PIfs.imp {X' : Cx} {cs : List Expr} {t t' : TT} (h : PIfs X' cs t) (i : ∀ σ H Q, t' σ H Q → t σ H Q) : PIfs X' cs t' := fun pins s σ H Q I q => h pins s σ H Q I (i σ H Q q)
theorem cf_comp (hx : X.xe = fun _ _ => False) (hS : CompScope X N' scope mp) (hcalm : X.calm = true) (hb : Leaves mp b) (hi : CI X tg iter di) (hg : ∀ cl C s₀ H₀ ex, CB (compCx X N' scope cl C s₀ H₀ ex) tg b)
  (hc : ∀ cl C s₀ H₀ ex, PIfs (compCx X N' scope cl C s₀ H₀ ex) ifs (tDT (compCx X N' scope cl C s₀ H₀ ex) dc)) (he : ∀ cl C s₀ H₀ ex, CE (compCx X N' scope cl C s₀ H₀ ex) elt d) (hs : ∀ x, foldedSetIterable iter X.env x = pure x := by intro _; rfl) :
  CF X (.ListComp elt [⟨tg, iter, ifs, 0⟩] scope pos) (dComp di mp b dc d) :=
 ⟨PE.imp (pe_comp hx hS hcalm hi (g := tBd X.K b) hg (fun cl C s₀ H₀ ex => PIfs.imp (hc cl C s₀ H₀ ex) fun σ H Q q => oDT_of (X' := compCx X N' scope cl C s₀ H₀ ex) q) (te := oD X.K d) (fun cl C s₀ H₀ ex => PE.imp (he cl C s₀ H₀ ex) fun σ H Q q => oD_of (X' := compCx X N' scope cl C s₀ H₀ ex) q) hs) fun σ H Q q => comp_read hb q, fun _ _ _ _ h => dComp_val h⟩
end
noncomputable def spD (K : PySem.W.Frag) (fn : FN) (n : Nat) : Sp := fun vs H Q _ => vs.length = n ∧ ∃ F α μ xs r μ', StOk K F α μ H ∧ Paired (fun v x => SvOk K F α v x) vs xs ∧ fn xs μ = .ok r μ' ∧
 ∀ v H' F' α', Ex F α H F' α' H' → StOk K F' α' μ' H' → SvOk K F' α' v r → Q v H'
section
variable {X : Cx} {f : Addr} {fd : FuncData} {ps : List Str} {x : Str} {p pos : Pos} {e : Expr} {es : List Expr} {ds : List D} {fn : FN} {k : Nat}
theorem call_read {σ : L2.St} {H : Hp} {Q : VK} (hl : ds.length = ps.length) (h : tD X (dCall (cal fn) ds) σ H Q) : tCall (spD X.K fn ps.length) [] E0 (tDA X ds) σ H Q := by
 obtain ⟨F, α, e, μ, S, h⟩ := h
 refine ⟨F, α, e, μ, S, (dArgs_wp_len (R.wp_bind h)).mono (fun xs μ1 hX11_ vs H1 F1 α1 x1 S1 o1 => ?_) fun _ _ h => h⟩
 obtain ⟨hn, h⟩ := hX11_
 show spD X.K fn ps.length (vs ++ []) H1 Q E0
 rw [List.append_nil]
 have h : ((fn xs μ1).calm).wp (Post X.K F α H e σ Q) (XPost X F α H e) := h
 cases q : fn xs μ1 with
 | err c μ2 => rw [q] at h; exact h.elim
 | bad => rw [q] at h; exact h.elim
 | ok r μ2 =>
  rw [q] at h
  exact ⟨by rw [o1.length, hn, hl], F1, α1, μ1, xs, r, μ2, S1.st, o1, q, fun v H2 F2 α2 x2 S2 o2 => h v H2 F2 α2 (x1.trans x2) (S1.of x2.same x2.pre S2) o2⟩
theorem ce_call (G : FnOk X.prog X.w X.K X.mg X.base CX0 k f fd ps (spD X.K fn ps.length)) (hr : Room k X.A) (hm : X.mg x = some (.ref f)) (hk : PySem.W.keepIn X.K (.ref f) = true) (hb : Binds X.K fd ps []) (ha : CA X (e :: es) ds)
  (hl : ds.length = ps.length := by rfl) (hg : Gl X x := by rfl) (hdb : (x == ("__debug__" : Str)) = false := by decide) (he : starEach (e :: es) X.env = (false, eval e X.env) :: starEach es X.env := by rfl) (hpl : (backTo pos (starEach es X.env)).any (·.1) = false := by rfl) :
  CE X (.Call (.Name x p) (e :: es) [] pos) (dCall (cal fn) ds) := PE.imp (pe_call G hr hg hm hk hb .nil pass0 ha hdb he hpl) fun σ H Q q => call_read hl q
theorem ce_ty1 {id : String} {r : List V → Hp → VK → Prop} {g : T → Option T} {d : D} (hc : CallR X (.type id) r) (hs : CallSem1 X.K r g) (hm : X.mg x = none) (hv : bootBuiltins x = some (.type id)) (ha : CE X e d) (hg : Gl X x := by rfl) (hn : x ≠ "__name__" := by decide)
  (hdb : (x == ("__debug__" : Str)) = false := by decide) (hs1 : starEach [e] X.env = (false, eval e X.env) :: starEach [] X.env := by rfl) (hpl : (backTo pos (starEach [] X.env)).any (·.1) = false := by rfl) : CE X (.Call (.Name x p) [e] [] pos) (dUn g d) :=
 PE.imp (pe_callTy hc hg hm hv (ca_cons ha ca_nil hs1) hn hdb hs1 hpl) (call1 hs)
end
inductive Md where
 | V | D | K
noncomputable def Md.fn : Md → Nat → DS → FN
 | .V => fnV
 | .D => fnD
 | .K => fnK
section
variable {P : Program} {w : World} {K : PySem.W.Frag} {mg : Str → Option Value} {base : Heap}
theorem sim_start {F H : Hp} {α : List Addr} {μ : Store} {N : List Str} {vs : List V} {xs : List SV} (S : StOk K F α μ H) (o : Paired (fun v x => SvOk K F α v x) vs xs) : Sim K F α (starts N.length xs) μ (L2.start N vs) H := by
 unfold starts
 have hl := o.length
 refine ⟨S, fun i x h => ?_, by unfold L2.start; simp [hl]⟩
 have get : ∀ {vs : List V} {xs : List SV} {i : Nat} {x : SV}, Paired (fun v x => SvOk K F α v x) vs xs → xs[i]? = some x → ∃ v, vs[i]? = some v ∧ SvOk K F α v x := fun {vs} => by
  intro xs i x o
  induction o generalizing i with
  | nil => intro e; simp at e
  | cons r _ ih =>
   intro e
   cases i with
   | zero => simp at e; subst e; exact ⟨_, rfl, r⟩
   | succ i =>
    obtain ⟨v, h1, h2⟩ := ih (i := i) (by simpa using e)
    exact ⟨v, by simpa using h1, h2⟩
 unfold slot at h
 by_cases hi : i < xs.length
 ·rw [List.getElem?_append_left (by simpa using hi), List.getElem?_map] at h
  cases q : xs[i]? with
  | none => rw [q] at h; cases h
  | some y =>
   rw [q] at h
   cases h
   obtain ⟨v, h1, h2⟩ := get o q
   refine ⟨v, ?_, h2⟩
   unfold L2.start
   rw [List.getElem?_append_left (by simpa [hl] using hi), List.getElem?_map, h1]
   rfl
 ·rw [List.getElem?_append_right (by simpa using hi), List.getElem?_replicate] at h
  split at h <;> rename_i q
  ·split at q <;> cases q
  ·cases h
theorem fn_ok {x qual : Str} {st : Stmt} {f : Addr} {fd : FuncData} {N ps : List Str} {k : Nat} {d : DS} (md : Md) (F : Fun K x qual st f fd) (S : FnScope N ps (defScope st))
  (hb : ∀ (cdv : Value) (A : Around) (outer : List Env) (s : Shared) (H : Hp) (E : XK), Room k (A.deeper (envOfC qual (defScope st) s.heap.objs.size f cdv)) → CSs (cxOf CX0 P w K mg base N qual (defScope st) f cdv A outer s H E).nox (defBody st) d) :
  FnOk P w K mg base CX0 (k + 1) f fd ps (spD K (md.fn N.length d) ps.length) := by
 refine F.ok S (fun vs H Q E h => h.1) fun cdv A outer s H vs Q E hr h => ⟨_, hb cdv A outer s H E hr, ?_⟩
 obtain ⟨hl, F0, α, μ, xs, r, μ', S0, o, h, post⟩ := h
 refine ⟨F0, α, _, μ, sim_start S0 o, ?_⟩
 have fin : ∀ {y : SV} {μ1 : Store} {v : V} {H1 F1 : Hp} {α1 : List Addr}, (match md with
   | .V => ice μ.length y μ1
   | .D => gc μ.length y μ1
   | .K => .ok y μ1) = .ok r μ' → Ex F0 α H F1 α1 H1 → StOk K F1 α1 μ1 H1 → SvOk K F1 α1 v y → Q v H1 := fun {y μ1 v H1 F1 α1} hg x1 S1 o1 => by
  cases md with
  | V =>
   obtain ⟨F2, g1, g2, g3, g4⟩ := ice_ok S0.len x1.pre S1 o1 hg
   exact post v H1 F2 α ⟨x1.same.trans g1, List.prefix_refl _, fun b z h1 h2 h3 => let ⟨a1, a2, a3⟩ := x1.fr b z h1 h2 h3; ⟨a1, by rw [g2 b a3]; exact a2, h3⟩⟩ g3 g4
  | D =>
   obtain ⟨γ, g1, g2, g3, g4⟩ := gc_ok S0.len x1.pre S1 o1 hg
   exact post v H1 F1 γ ⟨x1.same, g1, fun b z h1 h2 h3 => let ⟨a1, a2, a3⟩ := x1.fr b z h1 h2 h3; ⟨a1, a2, fun hm => a3 (g2 b hm)⟩⟩ g3 g4
  | K =>
   cases hg
   exact post v H1 F1 α1 x1 S1 o1
 cases q : d (starts N.length xs) μ with
 | rt y μ1 => exact fun v H1 F1 α1 x1 S1 o1 => fin (by cases md <;> (simp only [Md.fn, fnV_is, fnD_is, fnK_is, q] at h; exact h)) x1 S1 o1
 | nx e1 μ1 => exact fun σ1 H1 F1 α1 x1 S1 => fin (y := .val .non) (by cases md <;> (simp only [Md.fn, fnV_is, fnD_is, fnK_is, q] at h; exact h)) x1 S1.st (Rep.non' (K := K) (F := F1))
 | bk e1 μ1 => cases md <;> (simp only [Md.fn, fnV_is, fnD_is, fnK_is, q] at h; cases h)
 | ct e1 μ1 => cases md <;> (simp only [Md.fn, fnV_is, fnD_is, fnK_is, q] at h; cases h)
 | err c e1 μ1 => cases md <;> (simp only [Md.fn, fnV_is, fnD_is, fnK_is, q] at h; cases h)
 | bad => cases md <;> (simp only [Md.fn, fnV_is, fnD_is, fnK_is, q] at h; cases h)
theorem fn_none {f : Addr} {fd : FuncData} {ps : List Str} : FnOk P w K mg base CX0 0 f fd ps (spD K (fun _ _ => .bad) ps.length) :=
 ⟨fun vs H Q E h => h.1, fun A outer s H args us vs Q E _ _ _ _ h => by obtain ⟨_, _, _, _, _, _, _, _, _, h, _⟩ := h; cases h⟩
end
end Fw
namespace Fw
open PySem
section
variable {α : Type} {μ : List α} {a b c x : α} {l : List α}
@[simp] theorem st_get0 : (μ ++ a :: l)[μ.length]? = some a := by simp
@[simp] theorem st_take : (μ ++ l).take μ.length = μ := by simp
end
@[simp] theorem rd_cel (μ : Store) (k : Nat) : rd μ (.cel k) = (μ[k]?).map (·.2) := (rfl)
theorem frz_at {μ : Store} {k : Nat} {b : Bool} {t : T} (h : μ[k]? = some (b, t)) : frz (.cel k) μ = .ok t (μ.set k (false, t)) := by
 unfold frz; simp only [h]
@[simp] theorem frz_st0 (μ l : Store) (b : Bool) (t : T) : frz (.cel μ.length) (μ ++ (b, t) :: l) = .ok t (μ ++ (false, t) :: l) := by
 rw [frz_at (b := b) (t := t) (by simp)]; simp
@[simp] theorem ice_val (n : Nat) (t : T) (μ : Store) : ice n (.val t) μ = .ok (.val t) (μ.take n) := (rfl)
@[simp] theorem ice_st0 (μ l : Store) (b : Bool) (t : T) : ice μ.length (.cel μ.length) (μ ++ (b, t) :: l) = .ok (.val t) μ := by unfold ice; simp
@[simp] theorem lsts_st0 (μ l : Store) (b : Bool) (ts : List T) : lsts (.cel μ.length) (μ ++ (b, .lst ts) :: l) = some () := lsts_at (b := b) (ts := ts) (by simp)
theorem append_at {μ : Store} {k : Nat} {ts : List T} {t : T} (h : μ[k]? = some (true, .lst ts)) (hl : ts.length < szL) : appendAt (.cel k) t μ = some (μ.set k (true, .lst (ts ++ [t]))) := by
 unfold appendAt; simp only [h]; rw [if_pos hl]
theorem append_st0 (μ l : Store) (ts : List T) (t : T) (hl : ts.length < szL) : appendAt (.cel μ.length) t (μ ++ (true, .lst ts) :: l) = some (μ ++ (true, .lst (ts ++ [t])) :: l) := by
 rw [append_at (ts := ts) (by simp) hl]; simp
theorem setAt_at {μ : Store} {k : Nat} {ts : List T} {t : T} {i : Int} (h : μ[k]? = some (true, .lst ts)) (h0 : 0 ≤ i) (h1 : i < ts.length) : setAt (.cel k) (.int i) t μ = some (μ.set k (true, .lst (ts.set i.toNat t))) := by
 unfold setAt; simp only [h]; unfold ixN; rw [if_pos h0, if_pos h1]; rfl
@[simp] theorem starts_is (m : Nat) (xs : List SV) : starts m xs = xs.map some ++ List.replicate (m - xs.length) none := (rfl)
theorem atI_nat {α : Type} {xs : List α} {i : Int} (h0 : 0 ≤ i) : atI xs i = xs[i.toNat]? := by
 unfold atI ixN
 rw [if_pos h0]
 by_cases h : i < xs.length
 ·rw [if_pos h]; rfl
 ·rw [if_neg h]
  exact (List.getElem?_eq_none (by lia)).symm
theorem atI_map {α β : Type} {xs : List α} {f : α → β} {i : Int} (h0 : 0 ≤ i) (h1 : i < xs.length) : atI (xs.map f) i = some (f (xs[i.toNat]'(by lia))) := by
 rw [atI_nat h0, List.getElem?_map, List.getElem?_eq_getElem (by lia)]; rfl
@[simp] theorem atI_zero {α : Type} (x : α) (xs : List α) : atI (x :: xs) 0 = some x := by rw [atI_nat (by lia)]; rfl
@[simp] theorem atI_one {α : Type} (x y : α) (xs : List α) : atI (x :: y :: xs) 1 = some y := by rw [atI_nat (by lia)]; rfl
@[simp] theorem atI_two {α : Type} (x y z : α) (xs : List α) : atI (x :: y :: z :: xs) 2 = some z := by rw [atI_nat (by lia)]; rfl
noncomputable def irange (lo : Int) (n : Nat) : List Int := (List.range n).map fun (k : Nat) => lo + (k : Int)
theorem intsT_eq (lo : Int) (n : Nat) : intsT lo n = (irange lo n).map T.int := by
 unfold irange
 induction n generalizing lo with
 | zero => rfl
 | succ n ih =>
  rw [intsT, ih (lo + 1), List.range_succ_eq_map]
  simp only [List.map_cons, List.map_map]
  congr 1
  ·simp
  ·apply List.map_congr_left
   intro k _
   simp only [Function.comp]
   congr 1
   lia
@[simp] theorem irange_length (lo : Int) (n : Nat) : (irange lo n).length = n := by simp [irange]
theorem mem_irange {lo : Int} {n : Nat} {k : Int} : k ∈ irange lo n ↔ lo ≤ k ∧ k < lo + n := by
 unfold irange
 rw [List.mem_map]
 constructor
 ·rintro ⟨j, hj, rfl⟩
  rw [List.mem_range] at hj
  lia
 ·rintro ⟨h1, h2⟩
  exact ⟨(k - lo).toNat, by rw [List.mem_range]; lia, by lia⟩
theorem irange_get {lo : Int} {n i : Nat} {k : Int} (h : (irange lo n)[i]? = some k) : i < n ∧ k = lo + i := by
 unfold irange at h
 rw [List.getElem?_map] at h
 by_cases hi : i < n
 ·rw [List.getElem?_range hi] at h
  cases h
  exact ⟨hi, rfl⟩
 ·rw [List.getElem?_eq_none (by simpa using hi)] at h
  cases h
theorem intsT_at {lo : Int} {n i : Nat} {t : T} (h : (intsT lo n)[i]? = some t) : i < n ∧ t = .int (lo + i) := by
 rw [intsT_eq, List.getElem?_map] at h
 cases q : (irange lo n)[i]? with
 | none => rw [q] at h; cases h
 | some k =>
  rw [q] at h
  cases h
  obtain ⟨h1, rfl⟩ := irange_get q
  exact ⟨h1, rfl⟩
theorem intsT_k {lo : Int} {n i : Nat} {t : T} (h : (intsT lo n)[i]? = some t) : ∃ k : Int, t = .int k ∧ i < n ∧ k = lo + i := by
 obtain ⟨h1, rfl⟩ := intsT_at h
 exact ⟨_, rfl, h1, rfl⟩
@[simp] theorem intsT_len (lo : Int) (n : Nat) : (intsT lo n).length = n := by rw [intsT_eq]; simp
noncomputable def RS.goes (r : RS) (J : Slots → Store → Prop) (P : RS → Prop) : Prop := match r with
 | .nx e μ => J e μ
 | .ct e μ => J e μ
 | .bk e μ => P (.nx e μ)
 | r => P r
theorem forL_inv {same : Store → Prop} {b : BD} {body : DS} (P : RS → Prop) (I : Nat → Slots → Store → Prop) (hs : ∀ i e μ, I i e μ → same μ) {ts : List T}
  (step : ∀ i t e μ, ts[i]? = some t → I i e μ → ∃ e1, b t e = some e1 ∧ (body e1 μ).goes (I (i + 1)) P) (fin : ∀ e μ, I ts.length e μ → P (.nx e μ)) {e : Slots} {μ : Store} (h : I 0 e μ) : P (forL same b body ts e μ) := by
 have all : ∀ (us : List T) (i : Nat) (e : Slots) (μ : Store), ts.drop i = us → I i e μ → i ≤ ts.length → P (forL same b body us e μ) := by
  intro us
  induction us with
  | nil =>
   intro i e μ hd hI hi
   have hl : ts.length ≤ i := by
    have := congrArg List.length hd
    simp at this
    lia
   have e1 : i = ts.length := by lia
   subst e1
   unfold forL
   rw [if_pos (hs _ _ _ hI)]
   exact fin e μ hI
  | cons t us ih =>
   intro i e μ hd hI hi
   have hlt : i < ts.length := by
    have := congrArg List.length hd
    simp at this
    lia
   have hg : ts[i]? = some t := by
    have : (ts.drop i)[0]? = some t := by rw [hd]; rfl
    rw [List.getElem?_drop] at this
    simpa using this
   have hd' : ts.drop (i + 1) = us := by
    rw [← List.tail_drop, hd]; rfl
   obtain ⟨e1, h1, h2⟩ := step i t e μ hg hI
   unfold forL
   rw [if_pos (hs _ _ _ hI)]
   simp only [h1]
   cases q : body e1 μ with
   | nx e2 μ2 => rw [q] at h2; exact ih (i + 1) e2 μ2 hd' h2 hlt
   | ct e2 μ2 => rw [q] at h2; exact ih (i + 1) e2 μ2 hd' h2 hlt
   | bk e2 μ2 => rw [q] at h2; exact h2
   | rt x μ2 => rw [q] at h2; exact h2
   | err c e2 μ2 => rw [q] at h2; exact h2
   | bad => rw [q] at h2; exact h2
 exact all ts 0 e μ rfl h (Nat.zero_le _)
theorem forL_nx {same : Store → Prop} {b : BD} {body : DS} (I : Nat → Slots → Store → Prop) (hs : ∀ i e μ, I i e μ → same μ) {ts : List T}
  (step : ∀ i t e μ, ts[i]? = some t → I i e μ → ∃ e1 e2 μ2, b t e = some e1 ∧ body e1 μ = .nx e2 μ2 ∧ I (i + 1) e2 μ2) {e : Slots} {μ : Store} (h : I 0 e μ) : ∃ e' μ', forL same b body ts e μ = .nx e' μ' ∧ I ts.length e' μ' :=
 forL_inv (P := fun r => ∃ e' μ', r = .nx e' μ' ∧ I ts.length e' μ') I hs (fun i t e μ ht hI => by
  obtain ⟨e1, e2, μ2, h1, h2, h3⟩ := step i t e μ ht hI
  exact ⟨e1, h1, by rw [h2]; exact h3⟩) (fun e μ hI => ⟨e, μ, rfl, hI⟩) h
theorem compL_eq {same : Store → Prop} {b : BD} {c d : D} {e : Slots} {μ : Store} (p : T → Bool) (g : T → T) (hs : same μ) : ∀ (ts : List T),
  (∀ t ∈ ts, ∃ e1, b t e = some e1 ∧ c e1 μ = .ok (.val (.bl (p t))) μ ∧ (p t = true → d e1 μ = .ok (.val (g t)) μ)) → compL same b c d e ts μ = .ok ((ts.filter p).map g) μ
 | [], _ => by unfold compL; rw [if_pos hs]; rfl
 | t :: ts, h => by
  obtain ⟨e1, h1, h2, h3⟩ := h t List.mem_cons_self
  have ih := compL_eq p g hs ts fun u hu => h u (List.mem_cons_of_mem _ hu)
  unfold compL
  rw [if_pos hs]
  simp only [h1, h2, R.calm_ok, R.bind_ok, asB_bl, R.lift_some]
  cases q : p t with
  | true => rw [if_pos rfl, h3 q]; simp [q, ih]
  | false => rw [if_neg Bool.false_ne_true, ih]; simp [q]
theorem compL_ints {same : Store → Prop} {b : BD} {c d : D} {e : Slots} {μ : Store} (p : Int → Bool) (g : Int → T) (hs : same μ) (ns : List Int)
  (h : ∀ n ∈ ns, ∃ e1, b (.int n) e = some e1 ∧ c e1 μ = .ok (.val (.bl (p n))) μ ∧ (p n = true → d e1 μ = .ok (.val (g n)) μ)) : compL same b c d e (ns.map T.int) μ = .ok ((ns.filter p).map g) μ := by
 induction ns with
 | nil => unfold compL; rw [List.map_nil]; simp only; rw [if_pos hs]; rfl
 | cons n ns ih =>
  obtain ⟨e1, h1, h2, h3⟩ := h n List.mem_cons_self
  have ih := ih fun u hu => h u (List.mem_cons_of_mem _ hu)
  rw [List.map_cons]
  unfold compL
  rw [if_pos hs]
  simp only [h1, h2, R.calm_ok, R.bind_ok, asB_bl, R.lift_some]
  cases q : p n with
  | true => rw [if_pos rfl, h3 q]; simp [q, ih]
  | false => rw [if_neg Bool.false_ne_true, ih]; simp [q]
theorem compL_of {α : Type} {same : Store → Prop} {b : BD} {c d : D} {e : Slots} {μ : Store} (f : α → T) (p : α → Bool) (g : α → T) (hs : same μ) (as : List α)
  (h : ∀ a ∈ as, ∃ e1, b (f a) e = some e1 ∧ c e1 μ = .ok (.val (.bl (p a))) μ ∧ (p a = true → d e1 μ = .ok (.val (g a)) μ)) : compL same b c d e (as.map f) μ = .ok ((as.filter p).map g) μ := by
 induction as with
 | nil => unfold compL; rw [List.map_nil]; simp only; rw [if_pos hs]; rfl
 | cons n ns ih =>
  obtain ⟨e1, h1, h2, h3⟩ := h n List.mem_cons_self
  have ih := ih fun u hu => h u (List.mem_cons_of_mem _ hu)
  rw [List.map_cons]
  unfold compL
  rw [if_pos hs]
  simp only [h1, h2, R.calm_ok, R.bind_ok, asB_bl, R.lift_some]
  cases q : p n with
  | true => rw [if_pos rfl, h3 q]; simp [q, ih]
  | false => rw [if_neg Bool.false_ne_true, ih]; simp [q]
theorem compL_ofA {α : Type} {same : Store → Prop} {b : BD} {d : D} {e : Slots} {μ : Store} (f : α → T) (g : α → T) (hs : same μ) (as : List α)
  (h : ∀ a ∈ as, ∃ e1, b (f a) e = some e1 ∧ d e1 μ = .ok (.val (g a)) μ) : compL same b (dC (.bl true)) d e (as.map f) μ = .ok (as.map g) μ := by
 have := compL_of (same := same) (b := b) (c := dC (.bl true)) (d := d) (e := e) (μ := μ) f (fun _ => true) g hs as fun n hn => by
  obtain ⟨e1, h1, h2⟩ := h n hn
  exact ⟨e1, h1, rfl, fun _ => h2⟩
 rw [this]
 congr 2
 exact List.filter_eq_self.mpr fun _ _ => rfl
end Fw
namespace Fw
open PySem
noncomputable def fMin : T → T → Option T
 | .int i, .int j => some (.int (if j < i then j else i))
 | _, _ => none
@[simp] theorem fMin_int (i j : Int) : fMin (.int i) (.int j) = some (.int (if j < i then j else i)) := (rfl)
noncomputable def asKey : T → Option Key
 | .int i => some (.inl i)
 | .str x => some (.inr x)
 | _ => none
noncomputable def valT (kts : List (Key × T)) (k : Key) : Option T := (kts.find? fun kv => decide (kv.1 = k)).map (·.2)
noncomputable def putT (kts : List (Key × T)) (k : Key) (t : T) : List (Key × T) :=
 if (kts.any fun kv => decide (kv.1 = k)) = true then kts.map (fun kv => if kv.1 = k then (kv.1, t) else kv) else kts ++ [(k, t)]
noncomputable def putAtD (x : SV) (k : T) (t : T) (μ : Store) : Option Store := match x with
 | .cel c => match μ[c]? with
  | some (true, .dct kts) => (asKey k).bind fun kk => if kts.length < szL then some (μ.set c (true, .dct (putT kts kk t))) else none
  | _ => none
 | _ => none
noncomputable def sPutD (i : Nat) (dk dv : D) : DS := fun e μ => (dv e μ).toS e fun y μ1 => (R.lift (slot e i) μ1).toS e fun x μ1 => (dk e μ1).toS e fun z μ2 => (R.lift (rd μ2 z) μ2).toS e fun k μ2 =>
 (frz y μ2).toS e fun t μ3 => (R.lift (putAtD x k t μ3) μ3).toS e fun μ4 _ => .nx e μ4
@[simp] theorem sPutD_is (i : Nat) (dk dv : D) (e : Slots) (μ : Store) : sPutD i dk dv e μ = (dv e μ).toS e fun y μ1 => (R.lift (slot e i) μ1).toS e fun x μ1 => (dk e μ1).toS e fun z μ2 => (R.lift (rd μ2 z) μ2).toS e fun k μ2 =>
 (frz y μ2).toS e fun t μ3 => (R.lift (putAtD x k t μ3) μ3).toS e fun μ4 _ => .nx e μ4 := (rfl)
noncomputable def itemsT (kts : List (Key × T)) : List T := kts.map fun p => .tup [keyT p.1, p.2]
noncomputable def asD : T → Option (List (Key × T))
 | .dct kts => some kts
 | _ => none
noncomputable def iItems (d : D) : DI := fun e μ => (d e μ).bind fun x μ1 => (R.lift ((rd μ1 x).bind asD) μ1).bind fun kts μ1 => .ok ⟨itemsT kts, fun μ' => rd μ' x = rd μ1 x⟩ μ1
@[simp] theorem iItems_is (d : D) (e : Slots) (μ : Store) : iItems d e μ = (d e μ).bind fun x μ1 => (R.lift ((rd μ1 x).bind asD) μ1).bind fun kts μ1 => .ok ⟨itemsT kts, fun μ' => rd μ' x = rd μ1 x⟩ μ1 := (rfl)
end Fw
namespace Fw
open PySem
noncomputable def enumT (i : Int) : List T → List T
 | [] => []
 | t :: ts => .tup [.int i, t] :: enumT (i + 1) ts
noncomputable def iEnum (d : D) : DI := fun e μ => (d e μ).bind fun x μ1 => (R.lift ((rd μ1 x).bind seqItems) μ1).bind fun ts μ1 => .ok ⟨enumT 0 ts, fun μ' => rd μ' x = rd μ1 x⟩ μ1
@[simp] theorem iEnum_is (d : D) (e : Slots) (μ : Store) : iEnum d e μ = (d e μ).bind fun x μ1 => (R.lift ((rd μ1 x).bind seqItems) μ1).bind fun ts μ1 => .ok ⟨enumT 0 ts, fun μ' => rd μ' x = rd μ1 x⟩ μ1 := (rfl)
noncomputable def flatT : T → Bool
 | .non => true
 | .bl _ => true
 | .int _ => true
 | .str _ => true
 | _ => false
noncomputable def inT (t : T) (us : List T) : Bool := us.any fun y => eqT y t
noncomputable def fIn (t u : T) : Option T := match seqItems u with
 | some us => if (flatT t && us.all flatT) = true then some (.bl (inT t us)) else none
 | none => none
@[simp] theorem all_flat_ints (ns : List Int) : (ns.map T.int).all flatT = true := by simp [flatT]
theorem inT_ints (i : Int) (ns : List Int) : inT (.int i) (ns.map T.int) = decide (i ∈ ns) := by
 unfold inT
 rw [Bool.eq_iff_iff, decide_eq_true_iff, List.any_eq_true]
 constructor
 ·rintro ⟨t, ht, he⟩
  obtain ⟨j, hj, rfl⟩ := List.mem_map.mp ht
  rw [eqT_int, beq_iff_eq] at he
  exact he ▸ hj
 ·intro h
  exact ⟨_, List.mem_map.mpr ⟨i, h, rfl⟩, by rw [eqT_int, beq_iff_eq]⟩
@[simp] theorem fIn_ints (i : Int) (ns : List Int) : fIn (.int i) (.lst (ns.map T.int)) = some (.bl (decide (i ∈ ns))) := by
 unfold fIn
 simp only [seqItems_lst, all_flat_ints, Bool.and_true, inT_ints]
 rfl
noncomputable def fBand : T → T → Option T
 | .int i, .int j => if 0 ≤ i ∧ j = 1 then some (.int (i % 2)) else none
 | _, _ => none
@[simp] theorem fBand_one (i : Int) (h : 0 ≤ i) : fBand (.int i) (.int 1) = some (.int (i % 2)) := if_pos ⟨h, rfl⟩
noncomputable def fInt : T → Option T
 | .int i => some (.int i)
 | .bl b => some (.int (if b then 1 else 0))
 | _ => none
@[simp] theorem fInt_int (i : Int) : fInt (.int i) = some (.int i) := (rfl)
@[simp] theorem fInt_bl (b : Bool) : fInt (.bl b) = some (.int (if b then 1 else 0)) := (rfl)
noncomputable def asV : SV → Option T
 | .val t => some t
 | _ => none
@[simp] theorem asV_val (t : T) : asV (.val t) = some t := (rfl)
noncomputable def sUnp (is : List Nat) (d : D) : DS := fun e μ => (d e μ).toS e fun x μ1 => (R.lift ((asV x).bind fun t => bTup is t e) μ1).toS e fun e' μ1 => .nx e' μ1
@[simp] theorem sUnp_is (is : List Nat) (d : D) (e : Slots) (μ : Store) : sUnp is d e μ = (d e μ).toS e fun x μ1 => (R.lift ((asV x).bind fun t => bTup is t e) μ1).toS e fun e' μ1 => .nx e' μ1 := (rfl)
@[simp] theorem bTup_tri (i j k : Nat) (t u v : T) (e : Slots) : bTup [i, j, k] (.tup [t, u, v]) e = some (((e.set i (some (.val t))).set j (some (.val u))).set k (some (.val v))) := (rfl)
noncomputable def clearAt (x : SV) (μ : Store) : Option Store := match x with
 | .cel k => match μ[k]? with
  | some (true, .lst _) => some (μ.set k (true, .lst []))
  | _ => none
 | _ => none
noncomputable def sClear (o : D) : DS := fun e μ => (o e μ).toS e fun x μ0 => (R.lift (clearAt x μ0) μ0).toS e fun μ1 _ => .nx e μ1
@[simp] theorem sClear_is (o : D) (e : Slots) (μ : Store) : sClear o e μ = (o e μ).toS e fun x μ0 => (R.lift (clearAt x μ0) μ0).toS e fun μ1 _ => .nx e μ1 := (rfl)
noncomputable def extendAt (x : SV) (t : T) (μ : Store) : Option Store := match x, t with
 | .cel k, .lst us => match μ[k]? with
  | some (true, .lst ts) => if ts.length + us.length ≤ szL then some (μ.set k (true, .lst (ts ++ us))) else none
  | _ => none
 | _, _ => none
noncomputable def fRev : T → Option T
 | .lst ts => some (.lst ts.reverse)
 | _ => none
@[simp] theorem fRev_lst (ts : List T) : fRev (.lst ts) = some (.lst ts.reverse) := (rfl)
end Fw
namespace Fw
open PySem
noncomputable def sExtend (o d : D) : DS := fun e μ => (o e μ).toS e fun x μ0 => (R.lift (lsts x μ0) μ0).toS e fun _ μ0 => (d e μ0).toS e fun y μ1 => (R.lift ((asV y).bind fun t => extendAt x t μ1) μ1).toS e fun μ2 _ => .nx e μ2
@[simp] theorem sExtend_is (o d : D) (e : Slots) (μ : Store) : sExtend o d e μ = (o e μ).toS e fun x μ0 => (R.lift (lsts x μ0) μ0).toS e fun _ μ0 => (d e μ0).toS e fun y μ1 => (R.lift ((asV y).bind fun t => extendAt x t μ1) μ1).toS e fun μ2 _ => .nx e μ2 := (rfl)
end Fw
namespace Fw
open PySem
end Fw
namespace Fw
open PySem
noncomputable def fStr : T → Option T
 | .int i => if i.natAbs.log2 < 1920 then some (.str (toString i)) else none
 | _ => none
theorem fStr_int (i : Int) (h : i.natAbs.log2 < 1920) : fStr (.int i) = some (.str (toString i)) := if_pos h
theorem us_cons {us : List Value} {n : Nat} (h : us.length = n + 1) : ∃ a as, us = a :: as := by
 cases us with
 | nil => cases h
 | cons a as => exact ⟨a, as, rfl⟩
end Fw
namespace Fw
open PySem
noncomputable def fBandA : T → T → Option T
 | .int i, .int j => if j = 1 then some (.int (i % 2)) else none
 | _, _ => none
theorem fBandA_one (i : Int) : fBandA (.int i) (.int 1) = some (.int (i % 2)) := by unfold fBandA; exact if_pos rfl
noncomputable def plain : List (Sum T Nat) → Option (List T)
 | [] => some []
 | .inl t :: xs => (plain xs).map fun ts => t :: ts
 | .inr _ :: _ => none
end Fw
namespace Fw
open PySem
end Fw
namespace Fw
open PySem
noncomputable def insL (x : Int) : List Int → List Int
 | [] => [x]
 | y :: r => if y < x then y :: insL x r else x :: y :: r
noncomputable def sorL (ns : List Int) : List Int := ns.foldr insL []
theorem insL_perm (x : Int) : ∀ l, (insL x l).Perm (x :: l)
 | [] => .refl _
 | y :: r => by
  unfold insL; split
  ·exact ((insL_perm x r).cons y).trans (.swap _ _ _)
  ·exact .refl _
theorem sorL_perm : ∀ ns, (sorL ns).Perm ns
 | [] => .refl _
 | x :: r => (insL_perm x _).trans ((sorL_perm r).cons x)
theorem insL_rises (x : Int) : ∀ l : List Int, l.Pairwise (· ≤ ·) → (insL x l).Pairwise (· ≤ ·)
 | [], _ => by simp [insL]
 | y :: r, h => by
  obtain ⟨h1, h2⟩ := List.pairwise_cons.mp h
  unfold insL; split
  ·refine List.pairwise_cons.mpr ⟨fun z hz => ?_, insL_rises x r h2⟩
   rcases List.mem_cons.mp ((insL_perm x r).mem_iff.mp hz) with rfl | hz
   ·omega
   ·exact h1 z hz
  ·refine List.pairwise_cons.mpr ⟨fun z hz => ?_, h⟩
   rcases List.mem_cons.mp hz with rfl | hz
   ·omega
   ·have := h1 z hz; omega
theorem sorL_rises : ∀ ns, (sorL ns).Pairwise (· ≤ ·)
 | [] => .nil
 | x :: r => insL_rises x _ (sorL_rises r)
theorem sorL_eq {ns ns' : List Int} (hp : ns'.Perm ns) (hs : ns'.Pairwise (· ≤ ·)) : ns' = sorL ns :=
 List.Perm.eq_of_pairwise (fun _ _ _ _ a b => Int.le_antisymm a b) hs (sorL_rises ns) (hp.trans (sorL_perm ns).symm)
end Fw
namespace Fw
open PySem L2 PyProof.Rows
section
variable {P : Program} {w : World} {K : PySem.W.Frag} {mg : Str → Option Value} {base : Heap}
end
section
variable {X : Cx} {f : Addr} {fd : FuncData} {ps : List Str} {x : Str} {p pos : Pos} {e : Expr} {es : List Expr} {ds : List D} {fn : FN} {k : Nat}
end
end Fw
namespace Fw
open PySem L2 PyProof.Rows
section
variable {X : Cx} {pins : List (Addr × Obj)} {σ : L2.St} {H : Hp} {s : Shared}
end
end Fw
namespace L2
open PySem PySem.Spec PyProof.Rows
section
variable {prog : Program} {w : World} {A : Around} {E : Value → Shared → Prop} {s : Shared} {e C : Addr} {bm : List Value} {Q : Value → Shared → Prop} {c : Value}
end
end L2
namespace Fw
open PySem L2 PyProof.Rows
section
variable {X : Cx} {n x : Str} {C D : Addr} {np pos tp : Pos} {name : Option Str} {body tl : List Stmt} {b₀ : Stmt} {rest : List ExceptHandler} {d : DS}
end
end Fw
namespace Fw
open PySem L2 PyProof.Rows
section
variable {X : Cx} {D : Addr} {T : String} {x : Str} {p p2 pos : Pos} {a : Expr} {da : Fw.D} {ns : List Str}
end
end Fw
namespace L2
open PySem PySem.Spec PySem.Calls PySem.W PyProof.Rows Builtin Builtin.ObjectAttr Builtin.Getset_descriptor
section
variable {prog : Program} {w : World} {A : Around} {E : Value → Shared → Prop} {s : Shared} {K : Frag} {x C : Addr}
end
end L2
namespace Fw
open PySem L2 PyProof.Rows
section
variable {X : Cx} {D : Addr} {Tn : String} {x : Str} {p p2 pos : Pos} {a : Expr} {da : Fw.D} {f : Str → Option Bool}
end
end Fw
namespace Fw.H
open PySem Fw
structure Row (m : Int) (n : Int) (ns : List Int) : Prop where
 len : (ns.length : Int) = n
 lo : ∀ x ∈ ns, 0 ≤ x
 hi : ∀ x ∈ ns, x < m
theorem Row.nil (m : Int) : Row m ((0 : Nat) : Int) [] := ⟨rfl, by simp, by simp⟩
noncomputable def IsPr (p : Int) : Prop := p ∈ ([2, 3, 5, 7, 11, 13, 17, 19, 23, 29, 31, 37, 41, 43, 47, 53, 59, 61, 67, 71, 73, 79, 83, 89, 97] : List Int)
theorem IsPr.pos {p : Int} (h : IsPr p) : 2 ≤ p ∧ p ≤ 97 := by
 have key : ∀ p ∈ ([2, 3, 5, 7, 11, 13, 17, 19, 23, 29, 31, 37, 41, 43, 47, 53, 59, 61, 67, 71, 73, 79, 83, 89, 97] : List Int), 2 ≤ p ∧ p ≤ 97 := by decide +kernel
 exact key p h
end Fw.H
namespace Fw
open PySem PySem.Spec PyProof.Rows L2
structure Gf (K : PySem.W.Frag) (mg : Str → Option Value) (x : Str) (st : Stmt) (ps : List Str) (f : Addr) (fd : FuncData) : Prop where
 F : Fun K x x st f fd
 b : Binds K fd ps []
 m : mg x = some (.ref f)
noncomputable def relabelS (scope so : Scope) : Scope := { scope with names := scope.names.map fun (n, k) => if (k == .free && so.kind == .function && so.names.lookup n == some .cell) then (n, .cell) else (n, k) }
noncomputable def CompOk (N N' : List Str) (scope so : Scope) (mp : List (Option Nat)) : Prop :=
 scope.kind = .function ∧ (scope.names.filter fun y => y.2 == NameKind.cell).length ≤ 1 ∧ (scope.names.map (·.1)).Nodup ∧ (∀ y ∈ scope.names, (y.2 = .local → scope.names.lookup y.1 = some .local) ∧ (y.2 = .free → (so.names.lookup y.1 = some .cell ∨ so.names.lookup y.1 = some .free) ∧
  ((relabelS scope so).names.lookup y.1 = some .cell ∨ (relabelS scope so).names.lookup y.1 = some .free))) ∧ mp.length = N'.length ∧
 ∀ q ∈ mp.zip N', match q.1 with
  | none => True
  | some j => N[j]? = some q.2 ∧ (q.2, NameKind.free) ∈ scope.names ∧ (so.names.lookup q.2 = some .cell ∨ so.names.lookup q.2 = some .free)
noncomputable instance (N N' : List Str) (scope so : Scope) (mp : List (Option Nat)) : Decidable (CompOk N N' scope so mp) := by
 unfold CompOk
 have : ∀ q : Option Nat × Str, Decidable (match q.1 with
  | none => True
  | some j => N[j]? = some q.2 ∧ (q.2, NameKind.free) ∈ scope.names ∧ (so.names.lookup q.2 = some .cell ∨ so.names.lookup q.2 = some .free)) := fun q => by
  cases q.1 <;> infer_instance
 infer_instance
theorem lookup_of_mem {α : Type} {x : Str} {k : α} : ∀ {l : List (Str × α)}, (l.map (·.1)).Nodup → (x, k) ∈ l → l.lookup x = some k
 | [], _, h => by cases h
 | (y, k') :: l, nd, h => by
  have nd' := List.nodup_cons.mp (by simpa using nd : (y :: l.map (·.1)).Nodup)
  rw [List.lookup_cons]
  rcases List.mem_cons.mp h with e | h
  ·cases e; simp
  ·have : (x == y) = false := by
    have : x ≠ y := fun q => nd'.1 (List.mem_map.mpr ⟨_, h, q⟩)
    simpa using this
   rw [this]
   exact lookup_of_mem nd'.2 h
theorem compScope_of {X : Cx} {N' : List Str} {scope : Scope} {mp : List (Option Nat)} (so : Scope) (hso : X.env.scope = so) (N : List Str) (hN : X.N = N) (h : CompOk N N' scope so mp) : CompScope X N' scope mp := by
 subst hso
 subst hN
 obtain ⟨h1, hc1, hnd, h2, h3, h4⟩ := h
 have er : (relabel scope X.env).names = (relabelS scope X.env.scope).names := rfl
 refine ⟨h1, hc1, hnd, fun y hy => (h2 y hy).1, fun y hy hf => ((h2 y hy).2 hf).1, h3, fun i j hij => ?_, fun x hx => ?_, fun x hx => ?_⟩
 ·have hi : i < mp.length := (List.getElem?_eq_some_iff.mp hij).1
  have hz : (mp.zip N')[i]? = some (some j, N'[i]'(by omega)) := by
   rw [List.getElem?_zip_eq_some]
   exact ⟨hij, by simp⟩
  have := h4 _ (List.mem_of_getElem? hz)
  exact ⟨_, by simp, this⟩
 ·rw [er]; exact ((h2 _ hx).2 rfl).2
 ·rw [er] at hx
  have mem : ∀ k, (relabelS scope X.env.scope).names.lookup x = some k → (k = .cell ∨ k = .free) → (x, NameKind.free) ∈ scope.names ∨ scope.names.lookup x = some .cell := fun k hk hkk => by
   have hm := PySem.mem_of_lookup hk
   unfold relabelS at hm
   obtain ⟨⟨n, k'⟩, hm1, hm2⟩ := List.mem_map.mp hm
   by_cases hc : (k' == .free && X.env.scope.kind == .function && X.env.scope.names.lookup n == some .cell) = true
   ·simp only [hc, if_true] at hm2
    cases hm2
    have : k' = .free := by
     simp only [Bool.and_eq_true, beq_iff_eq] at hc
     exact hc.1.1
    subst this
    exact .inl hm1
   ·simp only [hc, if_false] at hm2
    cases hm2
    rcases hkk with rfl | rfl
    ·exact .inr (lookup_of_mem hnd hm1)
    ·exact .inl hm1
  rcases hx with hx | hx
  ·exact mem _ hx (.inl rfl)
  ·exact mem _ hx (.inr rfl)
theorem sp_law {K : PySem.W.Frag} {fn : FN} {H : Hp} {a : Addr} {ns : List Int} (hlaw : ∀ ns : List Int, ns.length ≤ 63 → ∃ μ', fn [.val (.lst (ns.map T.int))] [] = .ok (.val (.bl true)) μ') (hl : ns.length ≤ 63) (hS : SqL K H a (ns.map V.int)) :
  spD K fn 1 [.ref a] H (fun v _ => v = .bl true) (fun _ _ _ => False) := by
 obtain ⟨μ', h⟩ := hlaw ns hl
 refine ⟨rfl, H, [], [], _, _, μ', ⟨Same.refl _, rfl, List.nodup_nil, fun k a h => by simp at h, fun k b t a h => by simp at h⟩, .cons ?_ .nil, h, fun v H' F' α' _ _ o => Rep.of_bl (K := K) (F := F') o⟩
 show Rep K H (.lst (ns.map T.int)) (.ref a)
 rw [Rep]
 exact ⟨a, _, rfl, hS, RepL.of_ints ns⟩
section
variable {K : PySem.W.Frag}
theorem Now.lst_ {F H : Hp} {v : V} {ts : List T} (h : Now K F H v (.lst ts)) : ∃ a vs, v = .ref a ∧ SqL K H a vs ∧ RepL K F ts vs := h
theorem Now.tup_ {F H : Hp} {v : V} {ts : List T} (h : Now K F H v (.tup ts)) : ∃ a vs, v = .ref a ∧ SqT K F a vs ∧ RepL K F ts vs := h
theorem sem_ii {r : R2} {f : T → T → Option T} (g : Int → Int → T) (gV : Int → Int → V) (C : Int → Int → Prop) (hr : ∀ i j H Q, C i j → Q (gV i j) H → r (.int i) (.int j) H Q)
  (hf : ∀ t u w, f t u = some w → ∃ i j, t = .int i ∧ u = .int j ∧ w = g i j ∧ C i j) (hg : ∀ F i j, Rep K F (g i j) (gV i j)) : OpSem K r f := by
 intro F H v u t t' w Q s hv hu hw q
 obtain ⟨i, j, rfl, rfl, rfl, hc⟩ := hf _ _ _ hw
 cases hv.int
 cases hu.int
 exact hr i j H Q hc (q _ H F Grow.refl (hg F i j))
theorem sem_sub : OpSem K (rI0 fun i j => .int (i - j)) fSub := sem_ii (fun i j => .int (i - j)) (fun i j => .int (i - j)) (fun _ _ => True) (fun i j H Q _ q => ⟨i, j, rfl, rfl, q⟩)
 (fun t u w h => by cases t <;> cases u <;> first | (cases h; exact ⟨_, _, rfl, rfl, rfl, trivial⟩) | cases h) fun F i j => Rep.int' _
theorem sem_mod : OpSem K (rI (fun _ j => 0 < j) fun i j => .int (i % j)) fMod := sem_ii (fun i j => .int (i % j)) (fun i j => .int (i % j)) (fun _ j => 0 < j) (fun i j H Q c q => ⟨i, j, rfl, rfl, c, q⟩)
 (fun t u w h => by
  cases t <;> cases u <;> first | cases h | skip
  rename_i i j
  by_cases hj : 0 < j
  ·have h : (if 0 < j then some (T.int (i % j)) else none) = some w := h
   rw [if_pos hj] at h
   cases h
   exact ⟨_, _, rfl, rfl, rfl, hj⟩
  ·have h : (if 0 < j then some (T.int (i % j)) else none) = some w := h
   rw [if_neg hj] at h; cases h) fun F i j => Rep.int' _
theorem sem_div : OpSem K (rI CDiv fun i j => .int (i / j)) fDiv := sem_ii (fun i j => .int (i / j)) (fun i j => .int (i / j)) CDiv (fun i j H Q c q => ⟨i, j, rfl, rfl, c, q⟩)
 (fun t u w h => by
  cases t <;> cases u <;> first | cases h | skip
  rename_i i j
  have h : (if 0 < j ∧ j < 1073741824 then some (T.int (i / j)) else none) = some w := h
  by_cases hj : 0 < j ∧ j < 1073741824
  ·rw [if_pos hj] at h
   cases h
   exact ⟨_, _, rfl, rfl, rfl, hj⟩
  ·rw [if_neg hj] at h; cases h) fun F i j => Rep.int' _
theorem sem_shr : OpSem K (rI (fun _ j => 0 ≤ j) fun i j => .int (i / 2 ^ j.toNat)) fShr := sem_ii (fun i j => .int (i / 2 ^ j.toNat)) (fun i j => .int (i / 2 ^ j.toNat)) (fun _ j => 0 ≤ j) (fun i j H Q c q => ⟨i, j, rfl, rfl, c, q⟩)
 (fun t u w h => by
  cases t <;> cases u <;> first | cases h | skip
  rename_i i j
  have h : (if 0 ≤ j ∧ j ≤ 64 then some (T.int (i / 2 ^ j.toNat)) else none) = some w := h
  by_cases hj : 0 ≤ j ∧ j ≤ 64
  ·rw [if_pos hj] at h
   cases h
   exact ⟨_, _, rfl, rfl, rfl, hj.1⟩
  ·rw [if_neg hj] at h; cases h) fun F i j => Rep.int' _
theorem sem_lt : OpSem K (rI0 fun i j => .bl (decide (i < j))) fLt := sem_ii (fun i j => .bl (decide (i < j))) (fun i j => .bl (decide (i < j))) (fun _ _ => True) (fun i j H Q _ q => ⟨i, j, rfl, rfl, q⟩)
 (fun t u w h => by cases t <;> cases u <;> first | (cases h; exact ⟨_, _, rfl, rfl, rfl, trivial⟩) | cases h) fun F i j => Rep.bl' _
theorem sem_ge : OpSem K (rI0 fun i j => .bl (decide (j ≤ i))) fGe := sem_ii (fun i j => .bl (decide (j ≤ i))) (fun i j => .bl (decide (j ≤ i))) (fun _ _ => True) (fun i j H Q _ q => ⟨i, j, rfl, rfl, q⟩)
 (fun t u w h => by cases t <;> cases u <;> first | (cases h; exact ⟨_, _, rfl, rfl, rfl, trivial⟩) | cases h) fun F i j => Rep.bl' _
end
section
variable {X : Cx} {a b c : Expr} {da db dc : D} {pos p p2 : Pos}
theorem ce_sub (ha : CE X a da) (hb : CE X b db) : CE X (.BinOp a .Sub b pos) (dBin fSub da db) := ce_bin op_sub sem_sub ha hb
theorem ce_mod (ha : CE X a da) (hb : CE X b db) : CE X (.BinOp a .Mod b pos) (dBin fMod da db) := ce_bin op_mod sem_mod ha hb
theorem ce_div (ha : CE X a da) (hb : CE X b db) : CE X (.BinOp a .FloorDiv b pos) (dBin fDiv da db) := ce_bin op_fdiv sem_div ha hb
theorem ce_shr (ha : CE X a da) (hb : CE X b db) : CE X (.BinOp a .RShift b pos) (dBin fShr da db) := ce_bin op_shr sem_shr ha hb
theorem ce_ge (ha : CE X a da) (hb : CE X b db) : CE X (.Compare a [.GtE] [b] pos) (dBin fGe da db) := ce_cmp op_ge sem_ge (nomark _) ha hb
theorem ct_lt (ha : CE X a da) (hb : CE X b db) : CT X (.Compare a [.Lt] [b] pos) (dBin fLt da db) := ct_cmp op_lt sem_lt (nomark _) ha hb
end
end Fw
namespace L2
open PySem PySem.Spec PyProof.Rows
section
variable {X : Cx}
noncomputable def rCatTA (K : PySem.W.Frag) : R2 := fun x y H Q => ∃ a b xs ys, x = .ref a ∧ y = .ref b ∧ SqT K H a xs ∧ SqT K H b ys ∧ xs.length + ys.length ≤ sizeLine ∧
 (xs = [] → Q (.ref b) H) ∧ (xs ≠ [] → ys = [] → Q (.ref a) H) ∧ (xs ≠ [] → ys ≠ [] → ∀ p, H p = none → Q (.ref p) (upd H p (.tup (xs ++ ys))))
theorem op_catTA : OpR X (binaryOp .Add) (rCatTA X.K) := by
 intro pins s σ H x y v u Q I rx ry h
 obtain ⟨a, b, xs, ys, hx0, hy0, ha, hb, hz, q0, q1, q2⟩ := h
 by_cases hx : xs = []
 ·subst hx0; subst hy0
  cases rx
  cases ry
  obtain ⟨its, r1, p1, _⟩ := I.tuple ha
  obtain ⟨its2, r2, p2, _⟩ := I.tuple hb
  obtain ⟨⟨cls, dd, data, sl⟩, ho, hc, n, hd⟩ := id p1
  obtain ⟨⟨cls2, dd2, data2, sl2⟩, ho2, hc2, n2, hd2⟩ := id p2
  simp only at hc hd hc2 hd2
  subst hc hd hc2 hd2
  have e : its = [] := r1.nil_iff.mpr hx
  exact concat_meets ⟨_, ho, rfl⟩ ⟨_, ho2, rfl⟩ noFill_tuple_add seq_tuple_add PySem.F.slot_tuple_add PySem.F.entry_tuple_add (PySem.F.args_tuple_add_2 _ _)
   (tuple_addW0 a b its.toArray its2.toArray n n2 dd dd2 sl sl2 (by simp [e])) ⟨ho, ho2, .ref b, H, I, rfl, q0 hx⟩
 ·exact op_catT pins s σ H x y v u Q I rx ry ⟨a, b, xs, ys, hx0, hy0, ha, hb, hx, hz, q1 hx, q2 hx⟩
noncomputable def rCatS (K : PySem.W.Frag) : R2 := fun x y H Q => ∃ l b xs zs, x = .ref l ∧ y = .ref b ∧ SqL K H l xs ∧ SqL K H b zs ∧ xs.length + zs.length ≤ sizeLine ∧ ∀ p, H p = none → Q (.ref p) (upd H p (.lst (xs ++ zs)))
theorem op_catS : OpR X (binaryOp .Add) (rCatS X.K) := by
 intro pins s σ H x y v u Q I rx ry h
 obtain ⟨l, b, xs, zs, rfl, rfl, hA, hB, hz, q⟩ := h
 cases rx
 cases ry
 obtain ⟨its, r, p1, _⟩ := I.list hA
 obtain ⟨its2, r2, p2, _⟩ := I.list hB
 obtain ⟨⟨cls, dd, data, sl⟩, ho, hc, n, hd⟩ := id p1.isList
 obtain ⟨⟨cls2, dd2, data2, sl2⟩, ho2, hc2, n2, hd2⟩ := id p2.isList
 simp only at hc hd hc2 hd2
 subst hc hd hc2 hd2
 have hl := r.length
 have hl2 := r2.length
 have e : its.toArray ++ its2.toArray = (its ++ its2).toArray := by simp
 refine concat_meets ⟨_, ho, rfl⟩ ⟨_, ho2, rfl⟩ noFill_list_add seq_list_add PySem.F.slot_list_add PySem.F.entry_list_add (PySem.F.args_list_add_2 _ _)
  (list_addW l b its.toArray its2.toArray n n2 dd dd2 sl sl2 (by rw [List.size_toArray, List.size_toArray]; lia)) ⟨ho, ho2, ?_⟩
 rw [e]
 exact ⟨.ref _, _, I.lnew (t' := s.toks) (r.append r2) (by rw [List.length_append]; lia), rfl, q _ I.fresh⟩
end
end L2
namespace Fw
open PySem PySem.Spec PyProof.Rows L2
section
variable {K : PySem.W.Frag}
theorem szL_eq : szL = sizeLine := rfl
theorem RepL.nil_of {F : Hp} {ts : List T} {vs : List V} (h : RepL K F ts vs) (e : vs = []) : ts = [] := by
 have := h.length
 subst e
 exact List.length_eq_zero_iff.mp (by simpa using this)
theorem new_lst {F H : Hp} {ts : List T} {vs : List V} {Q : VK} {p : Addr} (s : Same F H) (hp : H p = none) (r : RepL K F ts vs) (q : ∀ v' H' F', Grow F H F' H' → Rep K F' (.lst ts) v' → Q v' H') : Q (.ref p) (upd H p (.lst vs)) := by
 have g : Grow F H (upd F p (.lst vs)) (upd H p (.lst vs)) := Grow.new hp
 refine q _ _ _ g ?_
 rw [Rep]
 exact ⟨p, vs, rfl, SqL.of upd_same, RepL.mono (g.same s) _ _ r⟩
theorem new_tup {F H : Hp} {ts : List T} {vs : List V} {Q : VK} {p : Addr} (s : Same F H) (hp : H p = none) (r : RepL K F ts vs) (q : ∀ v' H' F', Grow F H F' H' → Rep K F' (.tup ts) v' → Q v' H') : Q (.ref p) (upd H p (.tup vs)) := by
 have g : Grow F H (upd F p (.tup vs)) (upd H p (.tup vs)) := Grow.new hp
 refine q _ _ _ g ?_
 rw [Rep]
 exact ⟨p, vs, rfl, SqT.of upd_same, RepL.mono (g.same s) _ _ r⟩
theorem rep_tup {F : Hp} {a : Addr} {ts : List T} {vs : List V} (h : SqT K F a vs) (r : RepL K F ts vs) : Rep K F (.tup ts) (.ref a) := by
 rw [Rep]; exact ⟨a, vs, rfl, h, r⟩
theorem sem_add : OpSem K (fun x y H Q => (rI0 fun i j => .int (i + j)) x y H Q ∨ (fun x y H Q => ∃ i j, x = .str i ∧ y = .str j ∧ i.length + j.length ≤ sizeLine ∧ Q (.str (i ++ j)) H) x y H Q ∨ rCatTA K x y H Q ∨ rCatS K x y H Q) fAdd := by
 intro F H v u t t' w Q s hv hu hw q
 cases t with
 | int i =>
  cases t' with
  | int j =>
   cases hw
   cases hv.int
   cases hu.int
   exact .inl ⟨i, j, rfl, rfl, q _ H F Grow.refl (Rep.int' _)⟩
  | _ => cases hw
 | str i =>
  cases t' with
  | str j =>
   have hw : (if i.length + j.length ≤ szL then some (T.str (i ++ j)) else none) = some w := hw
   by_cases hz : i.length + j.length ≤ szL
   ·rw [if_pos hz] at hw
    cases hw
    cases hv.str
    cases hu.str
    exact .inr (.inl ⟨i, j, rfl, rfl, hz, q _ H F Grow.refl (Rep.str' _)⟩)
   ·rw [if_neg hz] at hw; cases hw
  | _ => cases hw
 | tup xs =>
  cases t' with
  | tup ys =>
   have hw : (if xs.length + ys.length ≤ szL then some (T.tup (xs ++ ys)) else none) = some w := hw
   by_cases hz : xs.length + ys.length ≤ szL
   ·rw [if_pos hz] at hw
    cases hw
    obtain ⟨a, vs, rfl, ha, ra⟩ := hv.tup_
    obtain ⟨b, us, rfl, hb, rb⟩ := hu.tup_
    refine .inr (.inr (.inl ⟨a, b, vs, us, rfl, rfl, Same.seqT s ha, Same.seqT s hb, ?_, fun e => ?_, fun e e2 => ?_, fun e e2 p hp => ?_⟩))
    ·have := ra.length; have := rb.length; rw [szL_eq] at hz; lia
    ·refine q _ H F Grow.refl ?_
     rw [ra.nil_of e, List.nil_append]
     exact rep_tup hb rb
    ·refine q _ H F Grow.refl ?_
     rw [rb.nil_of e2, List.append_nil]
     exact rep_tup ha ra
    ·exact new_tup s hp (ra.append rb) q
   ·rw [if_neg hz] at hw; cases hw
  | _ => cases hw
 | lst xs =>
  cases t' with
  | lst ys =>
   have hw : (if xs.length + ys.length ≤ szL then some (T.lst (xs ++ ys)) else none) = some w := hw
   by_cases hz : xs.length + ys.length ≤ szL
   ·rw [if_pos hz] at hw
    cases hw
    obtain ⟨a, vs, rfl, ha, ra⟩ := hv.lst_
    obtain ⟨b, us, rfl, hb, rb⟩ := hu.lst_
    exact .inr (.inr (.inr ⟨a, b, vs, us, rfl, rfl, ha, hb, by have := ra.length; have := rb.length; rw [szL_eq] at hz; lia, fun p hp => new_lst s hp (ra.append rb) q⟩))
   ·rw [if_neg hz] at hw; cases hw
  | _ => cases hw
 | _ => cases hw
end
section
variable {X : Cx} {a b c : Expr} {da db dc : D} {pos p p2 : Pos}
theorem ce_add (ha : CE X a da) (hb : CE X b db) : CE X (.BinOp a .Add b pos) (dBin fAdd da db) := ce_bin (op_add.or (op_add_str.or (op_catTA.or op_catS))) sem_add ha hb
end
end Fw
namespace Fw
open PySem PySem.Spec PyProof.Rows L2
section
variable {K : PySem.W.Frag}
theorem sem_mul : OpSem K (rI CMul fun i j => .int (i * j)) fMulA := sem_ii (fun i j => .int (i * j)) (fun i j => .int (i * j)) CMul (fun i j H Q c q => ⟨i, j, rfl, rfl, c, q⟩)
 (fun t u w h => by
  unfold fMulA at h
  cases t <;> cases u <;> first | cases h | skip
  rename_i i j
  have h : (if (-(2 ^ 64) < i ∧ i < 2 ^ 64) ∨ (-(2 ^ 64) < j ∧ j < 2 ^ 64) then some (T.int (i * j)) else none) = some w := h
  by_cases hj : (-(2 ^ 64) < i ∧ i < 2 ^ 64) ∨ (-(2 ^ 64) < j ∧ j < 2 ^ 64)
  ·rw [if_pos hj] at h
   cases h
   exact ⟨_, _, rfl, rfl, rfl, hj⟩
  ·rw [if_neg hj] at h; cases h) fun F i j => Rep.int' _
theorem RepL.atI {F : Hp} {ts : List T} {vs : List V} {i : Int} {t : T} (h : RepL K F ts vs) (e : Fw.atI ts i = some t) : ∃ v, L2.atI vs i = some v ∧ Rep K F t v := by
 have hl := h.length
 unfold Fw.atI at e
 obtain ⟨j, h1, h2⟩ := Option.bind_eq_some_iff.mp e
 obtain ⟨v, hv, rv⟩ := h.get h2
 refine ⟨v, ?_, rv⟩
 unfold L2.atI
 have : L2.ixN vs.length i = some j := by rw [← hl]; exact h1
 rw [this]
 exact hv
theorem Paired.atI {α β : Type} {P : α → β → Prop} {xs : List α} {ys : List β} {i : Int} {y : β} (h : Paired P xs ys) (e : Fw.atI ys i = some y) : ∃ x, L2.atI xs i = some x ∧ P x y := by
 have hl := h.length
 unfold Fw.atI at e
 obtain ⟨j, h1, h2⟩ := Option.bind_eq_some_iff.mp e
 have get : ∀ {xs : List α} {ys : List β} {j : Nat} {y : β}, Paired P xs ys → ys[j]? = some y → ∃ x, xs[j]? = some x ∧ P x y := by
  intro xs ys j y o
  induction o generalizing j with
  | nil => intro e; simp at e
  | cons r _ ih =>
   intro e
   cases j with
   | zero => simp at e; subst e; exact ⟨_, rfl, r⟩
   | succ j =>
    obtain ⟨v, h1, h2⟩ := ih (j := j) (by simpa using e)
    exact ⟨v, by simpa using h1, h2⟩
 obtain ⟨v, hv, rv⟩ := get h h2
 refine ⟨v, ?_, rv⟩
 unfold L2.atI
 have : L2.ixN xs.length i = some j := by rw [hl]; exact h1
 rw [this]
 exact hv
end
section
variable {X : Cx} {a b c : Expr} {da db dc : D} {pos p p2 : Pos}
theorem ce_mul (ha : CE X a da) (hb : CE X b db) : CE X (.BinOp a .Mult b pos) (dBin fMulA da db) := ce_bin op_mul sem_mul ha hb
theorem ce_idx (ha : CE X a da) (hb : CE X b db) (hp : PlainIx b := by intro _ _; rfl) : CE X (.Subscript a b pos) (dIdx da db) :=
 PE.imp (pe_ix ix_seq ha hb hp) fun σ H Q hX11_ => by
  obtain ⟨F, α, e, μ, S, h⟩ := hX11_
  refine ⟨F, α, e, μ, S, ?_⟩
  refine (R.wp_bind h).mono (fun x μ1 h v H1 F1 α1 x1 S1 o1 => ⟨F1, α1, e, μ1, S1, ?_⟩) fun _ _ h => h
  refine (R.wp_bind h).mono (fun y μ2 h v2 H2 F2 α2 x2 S2 o2 => ?_) fun _ _ h => h.mono x1
  obtain ⟨w, h9, post⟩ := R.wp_lift h
  obtain ⟨u, hu, h⟩ := Option.bind_eq_some_iff.mp h9
  have nu := now_of S2.st o2 hu
  have fin : ∀ {v'}, SvOk X.K F2 α2 v' w → Q v' H2 := fun {v'} o => post v' H2 F2 α2 (x1.trans x2) S2 o
  have o1' := o1.mono x2.same x2.pre
  have gen : ∀ t, rd μ2 x = some t → ap1 (fun t => fIdx t u) (some t) = some w → rIx X.K v v2 H2 Q := fun t hr h => by
   obtain ⟨t', w', e1, h, rfl⟩ := ap1_eq h
   cases e1
   have nt := now_of S2.st o1' hr
   cases t with
   | lst ts =>
    cases u with
    | int i =>
     cases nu.int
     obtain ⟨a, vs, rfl, hq, hl⟩ := nt.lst_
     obtain ⟨v', g1, g2⟩ := hl.atI h
     exact .inl ⟨a, vs, i, v', rfl, rfl, hq, g1, fin g2⟩
    | _ => cases h
   | tup ts =>
    cases u with
    | int i =>
     cases nu.int
     obtain ⟨a, vs, rfl, hq, hl⟩ := nt.tup_
     obtain ⟨v', g1, g2⟩ := hl.atI h
     exact .inr (.inl ⟨a, vs, i, v', rfl, rfl, Same.seqT S2.st.ext hq, g1, fin g2⟩)
    | _ => cases h
   | str z =>
    cases u with
    | int i =>
     cases nu.int
     cases nt.str
     have h : (if z.length ≤ szL then (Fw.atI z.cps.toList i).map fun c => T.str ⟨#[c]⟩ else none) = some w' := h
     by_cases hz : z.length ≤ szL
     ·rw [if_pos hz] at h
      obtain ⟨ch, g1, rfl⟩ := Option.map_eq_some_iff.mp h
      exact .inr (.inr ⟨z, i, ch, rfl, rfl, hz, g1, fin (Rep.str' (K := X.K) (F := F2) _)⟩)
     ·rw [if_neg hz] at h; cases h
    | _ => cases h
   | _ => cases u <;> cases h
  cases x with
  | val t => exact gen t rfl (by unfold idxS at h; exact h)
  | cel k =>
   cases q : rd μ2 (.cel k) with
   | none => unfold idxS at h; simp only at h; rw [q] at h; cases h
   | some t => exact gen t q (by unfold idxS at h; simp only at h; rw [q] at h; exact h)
  | box xs =>
   cases u with
   | int i =>
    cases nu.int
    obtain ⟨y', h1, rfl⟩ := Option.map_eq_some_iff.mp (show (Fw.atI xs i).map pick = some w from h)
    obtain ⟨a, vs, rfl, hq, hp⟩ := o1'
    obtain ⟨v', g1, g2⟩ := Paired.atI hp h1
    refine .inr (.inl ⟨a, vs, i, v', rfl, rfl, Same.seqT S2.st.ext hq, g1, fin ?_⟩)
    cases y' with
    | inl t => exact g2
    | inr k => exact g2
   | _ => cases h
theorem ce_len (hm : X.mg "len" = none) (ha : CE X a da) (hg : Gl X "len" := by rfl) (hs1 : starEach [a] X.env = (false, eval a X.env) :: starEach [] X.env := by rfl) (hpl : (backTo pos (starEach [] X.env)).any (·.1) = false := by rfl) :
  CE X (.Call (.Name "len" p) [a] [] pos) (dLen da) :=
 PE.imp (pe_callB (call_len_seq.or (call_len_str.or call_lenD)) hg hm PySem.boot_len (ca_cons ha ca_nil hs1) (by decide) (by decide) hs1 hpl) fun σ H Q hX11_ => by
  obtain ⟨F, α, e, μ, S, h⟩ := hX11_
  refine args1 ⟨F, α, e, μ, S, (R.wp_bind h).mono (fun x μ1 h v H1 F1 α1 x1 S1 o1 => ?_) fun _ _ h => h⟩
  obtain ⟨w, h9, post⟩ := R.wp_lift h
  obtain ⟨w', h, rfl⟩ := Option.map_eq_some_iff.mp h9
  have fin : ∀ {v'}, Rep X.K F1 w' v' → Q v' H1 := fun {v'} o => post v' H1 F1 α1 x1 S1 o
  have gen : ∀ t, rd μ1 x = some t → fLen t = some w' → (∃ p ys, [v] = [V.ref p] ∧ (SqL X.K H1 p ys ∨ SqT X.K H1 p ys) ∧ Q (.int ys.length) H1) ∨ (∃ z, [v] = [V.str z] ∧ z.length ≤ sizeLine ∧ Q (.int z.length) H1) ∨
    ∃ d kvs, [v] = [V.ref d] ∧ H1 d = some (.dK kvs) ∧ Q (.int kvs.length) H1 := fun t hr h => by
   have nt := now_of S1.st o1 hr
   cases t with
   | lst ts =>
    cases h
    obtain ⟨a, vs, rfl, hq, hl⟩ := nt.lst_
    exact .inl ⟨a, vs, rfl, .inl hq, fin (by rw [hl.length]; exact Rep.int' _)⟩
   | tup ts =>
    cases h
    obtain ⟨a, vs, rfl, hq, hl⟩ := nt.tup_
    exact .inl ⟨a, vs, rfl, .inr (Same.seqT S1.st.ext hq), fin (by rw [hl.length]; exact Rep.int' _)⟩
   | str z =>
    cases nt.str
    have h : (if z.length ≤ szL then some (T.int z.length) else none) = some w' := h
    by_cases hz : z.length ≤ szL
    ·rw [if_pos hz] at h
     cases h
     exact .inr (.inl ⟨z, rfl, hz, fin (Rep.int' _)⟩)
    ·rw [if_neg hz] at h; cases h
   | dct kts =>
    cases h
    obtain ⟨a, kvs, rfl, hq, hl⟩ := nt
    exact .inr (.inr ⟨a, kvs, rfl, hq, fin (by rw [hl.length]; exact Rep.int' _)⟩)
   | _ => cases h
  cases x with
  | val t => exact gen t rfl (by unfold lenS at h; exact h)
  | cel k =>
   cases q : rd μ1 (.cel k) with
   | none => unfold lenS at h; simp only at h; rw [q] at h; cases h
   | some t => exact gen t q (by unfold lenS at h; simp only at h; rw [q] at h; exact h)
  | box xs =>
   cases h
   obtain ⟨a, vs, rfl, hq, hp⟩ := o1
   exact .inl ⟨a, vs, rfl, .inr (Same.seqT S1.st.ext hq), fin (by rw [hp.length]; exact Rep.int' _)⟩
end
end Fw
namespace Fw
open PySem PySem.Spec PyProof.Rows L2
mutual
noncomputable def toPy : T → PyData
 | .non => .none
 | .bl b => .bool b
 | .int i => .int i
 | .str x => .str x
 | .lst ts => .list (toPys ts)
 | .tup ts => .tuple (toPys ts)
 | .dct _ => .dict []
 | .exc _ _ => .dict []
noncomputable def toPys : List T → List PyData
 | [] => []
 | t :: ts => toPy t :: toPys ts
end
mutual
theorem can_of : ∀ (n : Nat) (t : T), okT n t = true → (toPy t).canLay0 = true ∧ (toPy t).depth ≤ n
 | n, .non, _ => ⟨by rw [toPy, PyData.canLay0], by rw [toPy, PyData.depth]; exact Nat.zero_le _⟩
 | n, .bl _, _ => ⟨by rw [toPy, PyData.canLay0], by rw [toPy, PyData.depth]; exact Nat.zero_le _⟩
 | n, .int _, _ => ⟨by rw [toPy, PyData.canLay0], by rw [toPy, PyData.depth]; exact Nat.zero_le _⟩
 | n, .str x, h => by
  unfold okT at h
  exact ⟨by rw [toPy, PyData.canLay0]; exact h, by rw [toPy, PyData.depth]; exact Nat.zero_le _⟩
 | 0, .lst ts, h => by rw [okT] at h; cases h
 | n + 1, .lst ts, h => by
  rw [okT] at h
  obtain ⟨h1, h2⟩ := cans_of n ts h
  exact ⟨by rw [toPy, PyData.canLay0]; exact h1, by rw [toPy, PyData.depth]; lia⟩
 | 0, .tup ts, h => by rw [okT] at h; cases h
 | n + 1, .tup ts, h => by
  rw [okT] at h
  obtain ⟨h1, h2⟩ := cans_of n ts h
  exact ⟨by rw [toPy, PyData.canLay0]; exact h1, by rw [toPy, PyData.depth]; lia⟩
 | n, .dct _, h => by unfold okT at h; cases h
 | n, .exc _ _, h => by unfold okT at h; cases h
theorem cans_of : ∀ (n : Nat) (ts : List T), okTs n ts = true → PyData.canLayAll0 (toPys ts) = true ∧ PyData.depthAll (toPys ts) ≤ n
 | n, [], _ => ⟨by rw [toPys, PyData.canLayAll0], by rw [toPys, PyData.depthAll]; exact Nat.zero_le _⟩
 | n, t :: ts, h => by
  rw [okTs, Bool.and_eq_true] at h
  obtain ⟨h1, h2⟩ := can_of n t h.1
  obtain ⟨h3, h4⟩ := cans_of n ts h.2
  exact ⟨by rw [toPys, PyData.canLayAll0, h1, h3]; rfl, by rw [toPys, PyData.depthAll]; lia⟩
end
mutual
theorem eqv_of : ∀ (n : Nat) (t u : T), okT n t = true → okT n u = true → PyData.eqv (toPy t) (toPy u) = eqT t u
 | n, .non, u, _, h => by cases u <;> first | (simp [toPy, eqT, PyData.eqv]; done) | (unfold okT at h; cases h)
 | n, .bl a, u, _, h => by cases u <;> first | (simp [toPy, eqT, PyData.eqv]; done) | (unfold okT at h; cases h)
 | n, .int a, u, _, h => by cases u <;> first | (simp [toPy, eqT, PyData.eqv]; done) | (unfold okT at h; cases h)
 | n, .str a, u, _, h => by cases u <;> first | (simp [toPy, eqT, PyData.eqv]; done) | (unfold okT at h; cases h)
 | 0, .lst a, u, h, _ => by rw [okT] at h; cases h
 | n + 1, .lst a, u, h1, h => by
  cases u with
  | lst b => rw [toPy, toPy, eqT, PyData.eqv]; rw [okT] at h1 h; exact eqvs_of n a b h1 h
  | dct _ => unfold okT at h; cases h
  | exc _ _ => unfold okT at h; cases h
  | _ => simp [toPy, eqT, PyData.eqv]
 | 0, .tup a, u, h, _ => by rw [okT] at h; cases h
 | n + 1, .tup a, u, h1, h => by
  cases u with
  | tup b => rw [toPy, toPy, eqT, PyData.eqv]; rw [okT] at h1 h; exact eqvs_of n a b h1 h
  | dct _ => unfold okT at h; cases h
  | exc _ _ => unfold okT at h; cases h
  | _ => simp [toPy, eqT, PyData.eqv]
 | n, .dct _, u, h, _ => by unfold okT at h; cases h
 | n, .exc _ _, u, h, _ => by unfold okT at h; cases h
theorem eqvs_of : ∀ (n : Nat) (ts us : List T), okTs n ts = true → okTs n us = true → PyData.eqvAll (toPys ts) (toPys us) = eqTs ts us
 | n, [], [], _, _ => by rw [toPys, PyData.eqvAll, eqTs]
 | n, [], u :: us, _, _ => by rw [toPys, toPys, PyData.eqvAll, eqTs]
 | n, t :: ts, [], _, _ => by rw [toPys, toPys, PyData.eqvAll, eqTs]
 | n, t :: ts, u :: us, h1, h2 => by
  rw [okTs, Bool.and_eq_true] at h1 h2
  rw [toPys, toPys, PyData.eqvAll, eqTs, eqv_of n t u h1.1 h2.1, eqvs_of n ts us h1.2 h2.2]
end
section
variable {X : Cx} {pins : List (Addr × Obj)} {σ : L2.St} {H : Hp} {s : Shared}
mutual
theorem reads_of (I : Inv X pins σ H s) : ∀ (n : Nat) (t : T) (v : V) (u : Value), Rep X.K H t v → RelV v u → okT n t = true → ∃ as, Reads s.heap u (toPy t) as
 | n, .non, v, u, h, r, _ => by cases h.of_non; cases r; rw [toPy]; exact ⟨_, .none⟩
 | n, .bl b, v, u, h, r, _ => by cases h.of_bl; cases r; rw [toPy]; exact ⟨_, .bool b⟩
 | n, .int i, v, u, h, r, _ => by cases h.of_int; obtain ⟨t, rfl⟩ := r; rw [toPy]; exact ⟨_, .int i t⟩
 | n, .str i, v, u, h, r, _ => by cases h.of_str; obtain ⟨t, rfl⟩ := r; rw [toPy]; exact ⟨_, .str i t⟩
 | 0, .lst ts, v, u, h, r, ok => by rw [okT] at ok; cases ok
 | n + 1, .lst ts, v, u, h, r, ok => by
  rw [Rep] at h
  rw [okT] at ok
  obtain ⟨a, vs, rfl, hq, hl⟩ := h
  cases r
  obtain ⟨its, rv, pl, _⟩ := I.list hq
  obtain ⟨o, ho, hc, m, hd⟩ := pl.isList
  obtain ⟨as, ra⟩ := readsAll_of I n ts vs its hl rv ok
  rw [toPy]
  exact ⟨_, .list ho hc hd (by simpa using ra)⟩
 | 0, .tup ts, v, u, h, r, ok => by rw [okT] at ok; cases ok
 | n + 1, .tup ts, v, u, h, r, ok => by
  rw [Rep] at h
  rw [okT] at ok
  obtain ⟨a, vs, rfl, hq, hl⟩ := h
  cases r
  obtain ⟨its, rv, pl, _⟩ := I.tuple hq
  obtain ⟨o, ho, hc, m, hd⟩ := pl
  obtain ⟨as, ra⟩ := readsAll_of I n ts vs its hl rv ok
  rw [toPy]
  exact ⟨_, .tuple ho hc hd (by simpa using ra)⟩
 | n, .dct _, v, u, h, r, ok => by unfold okT at ok; cases ok
 | n, .exc _ _, v, u, h, r, ok => by unfold okT at ok; cases ok
theorem readsAll_of (I : Inv X pins σ H s) : ∀ (n : Nat) (ts : List T) (vs : List V) (us : List Value), RepL X.K H ts vs → Vals vs us → okTs n ts = true → ∃ as, ReadsAll s.heap us (toPys ts) as
 | n, [], vs, us, h, r, _ => by
  rw [RepL] at h; subst h; cases r
  rw [toPys]; exact ⟨_, .nil⟩
 | n, t :: ts, vs, us, h, r, ok => by
  rw [RepL] at h
  obtain ⟨v, vs', rfl, q, hl⟩ := h
  rw [okTs, Bool.and_eq_true] at ok
  cases r with
  | cons r1 r2 =>
   obtain ⟨as, ra⟩ := reads_of I n t v _ q r1 ok.1
   obtain ⟨bs, rb⟩ := readsAll_of I n ts vs' _ hl r2 ok.2
   rw [toPys]
   exact ⟨_, .cons ra rb⟩
end
end
theorem Now.rep {K : PySem.W.Frag} {F H : Hp} {v : V} {t : T} (s : Same F H) (h : Now K F H v t) (hx : ∀ c n, t ≠ .exc c n) : Rep K H t v := by
 cases t with
 | lst ts => rw [Rep]; obtain ⟨a, vs, e, q, r⟩ := h; exact ⟨a, vs, e, q, RepL.mono s _ _ r⟩
 | tup ts => rw [Rep]; obtain ⟨a, vs, e, q, r⟩ := h; exact ⟨a, vs, e, Same.seqT s q, RepL.mono s _ _ r⟩
 | dct ts => rw [Rep]; obtain ⟨a, vs, e, q, r⟩ := h; exact ⟨a, vs, e, q, RepD.mono s _ _ r⟩
 | exc c n => exact absurd rfl (hx c n)
 | _ => exact Rep.mono s _ _ h
noncomputable def rEqT (K : PySem.W.Frag) (neg : Bool) : R2 := fun x y H Q => ∃ t u, Rep K H t x ∧ Rep K H u y ∧ okT 100 t = true ∧ okT 100 u = true ∧ Q (.bl (if neg then !eqT t u else eqT t u)) H
section
variable {X : Cx} {a b c : Expr} {da db dc : D} {pos p p2 : Pos} {k : Nat}
theorem op_eqT (hr : Room k X.A) : OpR X (compareOp .Eq) (rEqT X.K false) := by
 intro pins s σ H x y v u Q I rx ry h
 obtain ⟨t, t', h1, h2, o1, o2, q⟩ := h
 obtain ⟨as, r1⟩ := reads_of I 100 t x v h1 rx o1
 obtain ⟨bs, r2⟩ := reads_of I 100 t' y u h2 ry o2
 obtain ⟨c1, d1⟩ := can_of 100 t o1
 obtain ⟨c2, d2⟩ := can_of 100 t' o2
 refine SeqAt.compareEq_reads r1 r2 c1 c2 (by have := hr.un; lia) ⟨.bl _, H, I, rfl, ?_⟩
 rw [eqv_of 100 t t' o1 o2]
 exact q
theorem op_neT (hr : Room k X.A) : OpR X (compareOp .NotEq) (rEqT X.K true) := by
 intro pins s σ H x y v u Q I rx ry h
 obtain ⟨t, t', h1, h2, o1, o2, q⟩ := h
 obtain ⟨as, r1⟩ := reads_of I 100 t x v h1 rx o1
 obtain ⟨bs, r2⟩ := reads_of I 100 t' y u h2 ry o2
 obtain ⟨c1, d1⟩ := can_of 100 t o1
 obtain ⟨c2, d2⟩ := can_of 100 t' o2
 refine SeqAt.compareNe_reads r1 r2 c1 c2 (by have := hr.un; lia) ⟨.bl _, H, I, rfl, ?_⟩
 rw [eqv_of 100 t t' o1 o2]
 exact q
theorem ok_noexc {n : Nat} {t : T} (h : okT n t = true) : ∀ c m, t ≠ .exc c m := fun c m e => by subst e; unfold okT at h; cases h
theorem sem_eq {K : PySem.W.Frag} : OpSem K (fun x y H Q => rEqT K false x y H Q ∨ rEq x y H Q) fEq := by
 intro F H v u t t' w Q s hv hu hw q
 by_cases hs : ∃ a b, t = .str a ∧ t' = .str b
 ·obtain ⟨a, b, rfl, rfl⟩ := hs
  cases hw
  cases hv.str
  cases hu.str
  refine .inr ⟨rfl, ?_⟩
  have e : decide (V.str a = V.str b) = (a == b) := dec_str
  rw [e]
  exact q _ H F Grow.refl (Rep.bl' _)
 ·have hw : (if okT 100 t = true ∧ okT 100 t' = true then some (T.bl (eqT t t')) else none) = some w := by
   unfold fEq at hw
   split at hw
   ·exact absurd ⟨_, _, rfl, rfl⟩ hs
   ·exact hw
  by_cases ho : okT 100 t = true ∧ okT 100 t' = true
  ·rw [if_pos ho] at hw
   cases hw
   exact .inl ⟨t, t', hv.rep s (ok_noexc ho.1), hu.rep s (ok_noexc ho.2), ho.1, ho.2, q _ H F Grow.refl (Rep.bl' _)⟩
  ·rw [if_neg ho] at hw; cases hw
theorem sem_ne {K : PySem.W.Frag} : OpSem K (fun x y H Q => rEqT K true x y H Q ∨ rNe x y H Q) fNe := by
 intro F H v u t t' w Q s hv hu hw q
 by_cases hs : ∃ a b, t = .str a ∧ t' = .str b
 ·obtain ⟨a, b, rfl, rfl⟩ := hs
  cases hw
  cases hv.str
  cases hu.str
  refine .inr ⟨rfl, ?_⟩
  have e : decide (V.str a = V.str b) = (a == b) := dec_str
  rw [e]
  exact q _ H F Grow.refl (Rep.bl' _)
 ·have hw : (if okT 100 t = true ∧ okT 100 t' = true then some (T.bl (!eqT t t')) else none) = some w := by
   unfold fNe at hw
   split at hw
   ·exact absurd ⟨_, _, rfl, rfl⟩ hs
   ·exact hw
  by_cases ho : okT 100 t = true ∧ okT 100 t' = true
  ·rw [if_pos ho] at hw
   cases hw
   exact .inl ⟨t, t', hv.rep s (ok_noexc ho.1), hu.rep s (ok_noexc ho.2), ho.1, ho.2, q _ H F Grow.refl (Rep.bl' _)⟩
  ·rw [if_neg ho] at hw; cases hw
theorem ce_eq (hr : Room k X.A) (ha : CE X a da) (hb : CE X b db) : CE X (.Compare a [.Eq] [b] pos) (dBin fEq da db) := ce_cmp ((op_eqT hr).or op_eq) sem_eq (nomark _) ha hb
theorem ct_eq (hr : Room k X.A) (ha : CE X a da) (hb : CE X b db) : CT X (.Compare a [.Eq] [b] pos) (dBin fEq da db) := ct_cmp ((op_eqT hr).or op_eq) sem_eq (nomark _) ha hb
theorem ct_ne (hr : Room k X.A) (ha : CE X a da) (hb : CE X b db) : CT X (.Compare a [.NotEq] [b] pos) (dBin fNe da db) := ct_cmp ((op_neT hr).or op_ne) sem_ne (nomark _) ha hb
noncomputable def TyN (K : PySem.W.Frag) (H : Hp) (v : V) (ty : String) : Prop := match v with
 | .non => ty = "NoneType"
 | .bl _ => ty = "bool"
 | .int _ => ty = "int"
 | .str _ => ty = "str"
 | .ref a => (ty = "list" ∧ ∃ xs, SqL K H a xs) ∨ (ty = "tuple" ∧ ∃ xs, SqT K H a xs) ∨ (ty = "dict" ∧ ∃ kvs, H a = some (.dK kvs))
 | _ => False
theorem call_isT {cn : String} : CallR X (.builtin "isinstance") (fun xs H Q => ∃ v ty r, xs = [v, .ty cn] ∧ TyN X.K H v ty ∧ PySem.W.kitOne X.K (.type ty) (.type cn) = some r ∧ Q (.bl r) H) := by
 intro pins s σ H xs us Q I r h
 obtain ⟨v, ty, b, rfl, hty, e, q⟩ := h
 obtain ⟨u1, u2, rfl, r1, r2⟩ := vals2 r
 have r2 : u2 = Value.type cn := r2
 subst r2
 have fin : ∀ tk, EP X pins σ Q (.bool b) { s with toks := tk } := fun tk => ⟨.bl b, H, I.tok _, rfl, q⟩
 cases v with
 | non => cases (show u1 = Value.none from r1); cases hty; exact PySem.W.kia_one PySem.W.kitx_none I.kIn True.intro e (fun z => nomatch z) fin
 | bl y => cases (show u1 = Value.bool y from r1); cases hty; exact PySem.W.kia_one PySem.W.kitx_bool I.kIn True.intro e (fun z => nomatch z) fin
 | int i => obtain ⟨t, q⟩ := (show ∃ t, u1 = Value.int i t from r1); cases q; cases hty; exact PySem.W.kia_one PySem.W.kitx_int I.kIn True.intro e (fun z => nomatch z) fin
 | str y => obtain ⟨t, q⟩ := (show ∃ t, u1 = Value.str y t from r1); cases q; cases hty; exact PySem.W.kia_one PySem.W.kitx_str I.kIn True.intro e (fun z => nomatch z) fin
 | ref a =>
  cases (show u1 = Value.ref a from r1)
  rcases hty with ⟨rfl, xs, hq⟩ | ⟨rfl, xs, hq⟩ | ⟨rfl, kvs, hq⟩
  ·obtain ⟨its, _, pl, _⟩ := I.list hq
   obtain ⟨o, ho, hc, _⟩ := pl.isList
   exact PySem.W.kia_one PySem.W.kitx_list I.kIn ⟨o, ho, hc⟩ e (fun z => nomatch z) fin
  ·obtain ⟨its, _, pl, _⟩ := I.tuple hq
   obtain ⟨o, ho, hc, _⟩ := pl
   exact PySem.W.kia_one PySem.W.kitx_tuple I.kIn ⟨o, ho, hc⟩ e (fun z => nomatch z) fin
  ·obtain ⟨_, _, vs, _, pz⟩ := (show ObjOk X.prog X.w H s.heap a (.dK kvs) from I.hok a _ hq)
   obtain ⟨o, es, h1, h2, _⟩ := pz
   exact PySem.W.kia_one PySem.W.kitx_dict I.kIn ⟨o, h1, h2.1⟩ e (fun z => nomatch z) fin
 | _ => exact hty.elim
noncomputable def Kd.name : Kd → String
 | .int => "int"
 | .bool => "bool"
 | .str => "str"
 | .list => "list"
 | .tuple => "tuple"
 | .dict => "dict"
noncomputable def kdT : T → String
 | .non => "NoneType"
 | .bl _ => "bool"
 | .int _ => "int"
 | .str _ => "str"
 | .lst _ => "list"
 | .tup _ => "tuple"
 | .dct _ => "dict"
 | .exc _ _ => ""
noncomputable def kitB (x y : String) : Option Bool := if (Value.type x == Value.type y) = true then some true else if PySem.W.kitMeta y = true then (PySem.fastBuiltinMro x).map (·.contains (Value.type y)) else none
noncomputable def kitTbl (x y : String) : Bool := x == y || (x == "bool" && y == "int")
theorem kitB_all : ∀ x ∈ ["NoneType", "bool", "int", "str", "list", "tuple", "dict"], ∀ y ∈ ["int", "bool", "str", "list", "tuple", "dict"], kitB x y = some (kitTbl x y) := by decide +kernel
theorem kit_all {K : PySem.W.Frag} (kd : Kd) (t : T) (hx : ∀ c n, t ≠ .exc c n) : PySem.W.kitOne K (.type (kdT t)) (.type kd.name) = some (isK kd t) := by
 have e : PySem.W.kitOne K (.type (kdT t)) (.type kd.name) = kitB (kdT t) kd.name := rfl
 have h1 : kdT t ∈ ["NoneType", "bool", "int", "str", "list", "tuple", "dict"] := by cases t <;> first | exact absurd rfl (hx _ _) | simp [kdT]
 have h2 : kd.name ∈ ["int", "bool", "str", "list", "tuple", "dict"] := by cases kd <;> simp [Kd.name]
 have h3 : kitTbl (kdT t) kd.name = isK kd t := by cases kd <;> cases t <;> first | exact absurd rfl (hx _ _) | rfl
 rw [e, kitB_all _ h1 _ h2, h3]
theorem ce_isK (kd : Kd) {cn : Str} (hm : X.mg "isinstance" = none) (hm2 : X.mg cn = none) (hv2 : bootBuiltins cn = some (.type kd.name)) (ha : CE X a da) (hn2 : cn ≠ "__name__") (hd2 : (cn == ("__debug__" : Str)) = false) (hg : Gl X "isinstance" := by rfl) (hg2 : Gl X cn := by rfl)
  (hs1 : starEach [a, .Name cn p2] X.env = (false, eval a X.env) :: starEach [.Name cn p2] X.env := by rfl) (hs2 : starEach [.Name cn p2] X.env = (false, eval (.Name cn p2) X.env) :: starEach [] X.env := by rfl) (hpl : (backTo pos (starEach [.Name cn p2] X.env)).any (·.1) = false := by rfl) :
  CE X (.Call (.Name "isinstance" p) [a, .Name cn p2] [] pos) (dIs kd da) :=
 PE.imp (pe_callB call_isT hg hm (by decide +kernel) (pa_cons ha (pa_cons (pe_bltn (v := .ty kd.name) hg2 hm2 hv2 rfl hn2 hd2) pa_nil hs2) hs1) (by decide) (by decide) hs1 hpl) fun σ H Q hX11_ => by
  obtain ⟨F, α, e, μ, S, h⟩ := hX11_
  refine ⟨F, α, e, μ, S, (R.wp_bind h).mono (fun x μ1 h v H1 F1 α1 x1 S1 o1 => ?_) fun _ _ h => h⟩
  obtain ⟨w, h9, post⟩ := R.wp_lift h
  obtain ⟨w', h, rfl⟩ := Option.map_eq_some_iff.mp h9
  have fin : ∀ {v'}, Rep X.K F1 w' v' → Q v' H1 := fun {v'} o => post v' H1 F1 α1 x1 S1 o
  have gen : ∀ t, rd μ1 x = some t → isT kd t = some w' → ∃ v' ty r, [v, V.ty kd.name] = [v', .ty kd.name] ∧ TyN X.K H1 v' ty ∧ PySem.W.kitOne X.K (.type ty) (.type kd.name) = some r ∧ Q (.bl r) H1 := fun t hr h => by
   have nt := now_of S1.st o1 hr
   have hx : ∀ c n, t ≠ .exc c n := fun c n z => by subst z; cases h
   have ew : w' = .bl (isK kd t) := by
    cases t <;> first | exact (Option.some.inj h).symm | cases h
   subst ew
   refine ⟨v, kdT t, _, rfl, ?_, kit_all kd t hx, fin (Rep.bl' _)⟩
   cases t with
   | non => rw [show v = .non from Rep.of_non (K := X.K) (F := F1) nt]; rfl
   | bl b => rw [nt.bl]; rfl
   | int b => rw [nt.int]; rfl
   | str b => rw [nt.str]; rfl
   | lst ts => obtain ⟨a, vs, rfl, hq, _⟩ := nt.lst_; exact .inl ⟨rfl, vs, hq⟩
   | tup ts => obtain ⟨a, vs, rfl, hq, _⟩ := nt.tup_; exact .inr (.inl ⟨rfl, vs, Same.seqT S1.st.ext hq⟩)
   | dct ts => obtain ⟨a, vs, rfl, hq, _⟩ := nt; exact .inr (.inr ⟨rfl, vs, hq⟩)
   | exc c n => exact absurd rfl (hx c n)
  cases x with
  | val t => exact gen t rfl h
  | cel j =>
   cases q : rd μ1 (.cel j) with
   | none => rw [isS_cel, q] at h; cases h
   | some t => exact gen t q (by rw [isS_cel, q] at h; exact h)
  | box xs =>
   cases h
   obtain ⟨a, vs, rfl, hq, _⟩ := o1
   exact ⟨_, "tuple", _, rfl, .inr (.inl ⟨rfl, vs, Same.seqT S1.st.ext hq⟩), kit_all kd (.tup []) (fun c n z => by cases z), fin (Rep.bl' _)⟩
theorem ce_is_bool (hm : X.mg "isinstance" = none) (hm2 : X.mg "bool" = none) (ha : CE X a da) (hg : Gl X "isinstance" := by rfl) (hg2 : Gl X "bool" := by rfl)
  (hs1 : starEach [a, .Name "bool" p2] X.env = (false, eval a X.env) :: starEach [.Name "bool" p2] X.env := by rfl) (hs2 : starEach [.Name "bool" p2] X.env = (false, eval (.Name "bool" p2) X.env) :: starEach [] X.env := by rfl) (hpl : (backTo pos (starEach [.Name "bool" p2] X.env)).any (·.1) = false := by rfl) :
  CE X (.Call (.Name "isinstance" p) [a, .Name "bool" p2] [] pos) (dIs .bool da) := ce_isK .bool hm hm2 (by decide +kernel) ha (by decide +kernel) (by decide +kernel) hg hg2 hs1 hs2 hpl
theorem ce_is_list (hm : X.mg "isinstance" = none) (hm2 : X.mg "list" = none) (ha : CE X a da) (hg : Gl X "isinstance" := by rfl) (hg2 : Gl X "list" := by rfl)
  (hs1 : starEach [a, .Name "list" p2] X.env = (false, eval a X.env) :: starEach [.Name "list" p2] X.env := by rfl) (hs2 : starEach [.Name "list" p2] X.env = (false, eval (.Name "list" p2) X.env) :: starEach [] X.env := by rfl) (hpl : (backTo pos (starEach [.Name "list" p2] X.env)).any (·.1) = false := by rfl) :
  CE X (.Call (.Name "isinstance" p) [a, .Name "list" p2] [] pos) (dIs .list da) := ce_isK .list hm hm2 (by decide +kernel) ha (by decide +kernel) (by decide +kernel) hg hg2 hs1 hs2 hpl
end
end Fw
namespace Fw
open PySem PySem.Spec PyProof.Rows L2
theorem asInts_eq : ∀ {ts : List T} {bs : List Int}, asInts ts = some bs → ts = bs.map T.int
 | [], bs, h => by cases h; rfl
 | t :: ts, bs, h => by
  cases t with
  | int b =>
   obtain ⟨cs, h1, rfl⟩ := Option.map_eq_some_iff.mp (show (asInts ts).map (fun bs => b :: bs) = some bs from h)
   rw [asInts_eq h1]; rfl
  | _ => cases h
theorem RepL.ints' {K : PySem.W.Frag} {F : Hp} : ∀ {bs : List Int} {vs : List V}, RepL K F (bs.map T.int) vs → vs = bs.map V.int
 | [], vs, h => by rw [List.map_nil, RepL] at h; exact h
 | b :: bs, vs, h => by
  rw [List.map_cons, RepL] at h
  obtain ⟨v, vs', rfl, q, r⟩ := h
  rw [r.ints', q.of_int]; rfl
section
variable {X : Cx} {a b c : Expr} {da db dc : D} {pos p p2 : Pos} {k : Nat}
theorem ce_tuple (hm : X.mg "tuple" = none) (ha : CE X a da) (hg : Gl X "tuple" := by rfl) (hs1 : starEach [a] X.env = (false, eval a X.env) :: starEach [] X.env := by rfl) (hpl : (backTo pos (starEach [] X.env)).any (·.1) = false := by rfl) :
  CE X (.Call (.Name "tuple" p) [a] [] pos) (dUn fTuple da) := ce_ty1 call_tuple_of (by
 intro F H v t w Q s hv hw q
 cases t with
 | lst ts =>
  cases hw
  obtain ⟨a, vs, rfl, hq, hl⟩ := hv.lst_
  exact ⟨a, vs, rfl, .inl ⟨hq, fun l hp => new_tup s hp hl q⟩⟩
 | tup ts =>
  cases hw
  obtain ⟨a, vs, rfl, hq, hl⟩ := hv.tup_
  exact ⟨a, vs, rfl, .inr ⟨Same.seqT s hq, q _ H F Grow.refl (rep_tup hq hl)⟩⟩
 | _ => cases hw) hm (by decide +kernel) ha hg (by decide) (by decide) hs1 hpl
theorem cs_append {o e1 : Expr} {do_ de : D} {apos cpos : Pos} (ho : CE X o do_) (he : CE X e1 de) (hbase : attributeBase o "append" X.env (eval o X.env) = eval o X.env := by rfl)
  (hfew : ((backTo cpos (starEach [e1] X.env)).all (fun x => !x.1) && (backToKw cpos (keywordEach [] X.env)).all (fun x => x.1.isSome) && decide (([e1] : List Expr).length + ([] : List Keyword).length + (if ([] : List Keyword).isEmpty then 0 else 1) < 30)) = true := by rfl)
  (hline : (apos.endLine == cpos.line) = true := by rfl) (hs1 : starEach [e1] X.env = (false, eval e1 X.env) :: starEach [] X.env := by rfl) (hpl : (backTo cpos (starEach [] X.env)).any (·.1) = false := by rfl)
  (hs : swapsWith (.Call (.Attribute o "append" apos) [e1] [] cpos) none pos.line X.env = pure false := by rfl) :
  CS X (.Expr (.Call (.Attribute o "append" apos) [e1] [] cpos) pos) (sAppend do_ de) :=
 PS.imp (ps_expr (pe_bm PySem.F.plainAttrs_list PySem.F.slot_list_append PySem.F.type_list_append mt_append ho (ca_cons he ca_nil hs1) hbase hfew hline hs1 hpl) hs) fun D σ H hX11_ => by
  obtain ⟨F, α, e, μ, S, h⟩ := hX11_
  refine ⟨F, α, e, μ, S, (PostS.toS h).mono (fun x μ1 h v H1 F1 α1 x1 S1 o1 => ?_) fun _ _ h => h⟩
  obtain ⟨_, hl, h⟩ := h.lift
  cases x with
  | cel j =>
   obtain ⟨ad, ha, rfl⟩ := o1
   have hc : ∃ bb ts, μ1[j]? = some (bb, .lst ts) := by
    unfold lsts at hl
    simp only at hl
    split at hl
    ·exact ⟨_, _, by assumption⟩
    ·cases hl
   obtain ⟨bb, ts, hj⟩ := hc
   have n1 := now_of S1.st (x := .cel j) (t := .lst ts) ⟨ad, ha, rfl⟩ (by rw [rd_cel, hj]; rfl)
   obtain ⟨a', vs, e1, hq, _⟩ := n1.lst_
   cases e1
   refine ⟨.inl ⟨rfl, vs, hq⟩, args1 ⟨F1, α1, e, μ1, S1, (PostS.toS h).mono (fun y μ2 h v2 H2 F2 α2 x2 S2 o2 => ?_) fun _ _ h => h.mono x1⟩⟩
   have h := h.toS
   cases hz : frz y μ2 with
   | err c μ3 => exact absurd hz (frz_no y μ2 c μ3)
   | bad => rw [hz] at h; exact h.elim
   | ok t μ3 =>
    rw [hz] at h
    obtain ⟨μ4, ha4, h⟩ := PostS.lift h
    obtain ⟨F3, s3, n3, S3, r3⟩ := frz_ok S2.st o2 hz
    unfold appendAt at ha4
    simp only at ha4
    have hc : ∃ us, μ3[j]? = some (true, .lst us) ∧ us.length < szL ∧ μ4 = μ3.set j (true, .lst (us ++ [t])) := by
     split at ha4
     ·rename_i us hjs
      by_cases hu : us.length < szL
      ·rw [if_pos hu] at ha4
       cases ha4
       exact ⟨us, hjs, hu, rfl⟩
      ·rw [if_neg hu] at ha4; cases ha4
     ·cases ha4
    obtain ⟨us, hj3, hu, rfl⟩ := hc
    have ha3 : α2[j]? = some ad := pre_get x2.pre ha
    obtain ⟨_, ws, hw, rw'⟩ := (S3.cell j true _ ad hj3 ha3).1 rfl
    have el := rw'.length
    refine ⟨ad, ws, v2, rfl, rfl, hw, by rw [szL_eq] at hu; omega, ?_⟩
    have x3 : Ex F α H F3 α2 H2 := x1.trans (x2.trans (Ex.of_ne s3 n3))
    exact h σ _ F3 α2 (x3.trans (Ex.put ha3)) ((S2.of s3 (List.prefix_refl _) S3).of (Same.refl _) (List.prefix_refl _) (put_ok S3 hj3 ha3 ⟨_, upd_same, rw'.append (RepL.one r3)⟩))
  | val t => cases hl
  | box xs => cases hl
end
end Fw
namespace Fw
open PySem L2 PyProof.Rows
section
variable {X : Cx}
end
end Fw
namespace L2
open PySem PySem.Spec PyProof.Rows
noncomputable def KIt (k : Bool) (h : Heap) (i l : Addr) (n : Nat) : Prop := match k with
 | true => h.IsListIter i l n
 | false => h.IsTupleIter i l n
theorem KIt.at {k : Bool} {h h' : Heap} {i l : Addr} {n : Nat} (x : KIt k h i l n) (e : ∀ o, h.get? i = some o → h'.get? i = some o) : KIt k h' i l n := by
 cases k with
 | true => exact Heap.IsListIter.at x e
 | false => exact Heap.IsTupleIter.at x e
theorem KIt.ob {k : Bool} {h : Heap} {i l : Addr} {n : Nat} (x : KIt k h i l n) : ∃ o, h.get? i = some o ∧ o.data = .fields #[.ref l, .int n 0] := by
 cases k with
 | true => obtain ⟨o, a, _, b⟩ := x; exact ⟨o, a, b⟩
 | false => obtain ⟨o, a, _, b⟩ := x; exact ⟨o, a, b⟩
section
variable {prog : Program} {w : World} {A : Around} {E : Value → Shared → Prop} {s : Shared}
end
noncomputable def itRec (k : Bool) (l : Addr) : Obj := { cls := .type (if k then "list_iterator" else "tuple_iterator"), data := .fields #[.ref l, .int 0 0] }
section
variable {prog : Program} {w : World} {A : Around} {E : Value → Shared → Prop} {s : Shared}
end
end L2
namespace L2
open PySem PySem.Spec PyProof.Rows
noncomputable def KSqV (K : PySem.W.Frag) (k : Bool) (H : Hp) (a : Addr) (xs : List V) : Prop := match k with
 | true => SqL K H a xs
 | false => SqT K H a xs
theorem ksqv_own {X : Cx} {pins : List (Addr × Obj)} {σ : L2.St} {H : Hp} {s : Shared} {k : Bool} {a c : Addr} {xs : List V} (I : Inv X pins σ H s) (h : KSqV X.K k H a xs) (hf : FpOk X pins H c) : a ≠ c := fun e => by
 subst e
 have key : ∀ o, X.K.lookup a = some o → False := fun o hk => by
  have hb := I.ok.mod.kin a o hk
  rcases hf.2.2.2.1 with z | z
  ·exact I.ok.noex a o hb z
  ·exact absurd (Nat.lt_of_lt_of_le (Heap.lt_size hb) (Nat.le_trans I.ok.bsz z)) (Nat.lt_irrefl _)
 cases k with
 | true =>
  rcases h with (h | ⟨o, h⟩) | ⟨o, its, n, hk, _⟩
  ·rw [hf.1] at h; cases h
  ·rw [hf.1] at h; cases h
  ·exact key o hk
 | false =>
  rcases h with (h | ⟨o, h⟩) | ⟨o, its, n, hk, _⟩
  ·rw [hf.1] at h; cases h
  ·rw [hf.1] at h; cases h
  ·exact key o hk
section
variable {X : Cx} {pins : List (Addr × Obj)} {σ : L2.St} {H : Hp} {s : Shared} {h' : Heap} {ch : List Addr}
end
end L2
namespace Fw
open PySem PySem.Spec PyProof.Rows L2
theorem seq_now {K : PySem.W.Frag} {F H : Hp} {v : V} {t : T} {ts : List T} (s : Same F H) (h : Now K F H v t) (e : seqItems t = some ts) : ∃ a vs k, v = .ref a ∧ KSqV K k H a vs ∧ RepL K F ts vs ∧ (k = true ↔ ∃ l, t = .lst l) := by
 cases t with
 | lst us => cases e; obtain ⟨a, vs, rfl, q, r⟩ := h.lst_; exact ⟨a, vs, true, rfl, q, r, by simp⟩
 | tup us => cases e; obtain ⟨a, vs, rfl, q, r⟩ := h.tup_; exact ⟨a, vs, false, rfl, Same.seqT s q, r, by simp⟩
 | _ => cases e
noncomputable def tDO (X : Cx) (o : Option D) : TO := fun σ H Q => ∃ F α e μ, Sim X.K F α e μ σ H ∧ (dOpt o e μ).wp (fun i μ' => ∀ H' F' α', Ex F α H F' α' H' → Sim X.K F' α' e μ' σ H' → Q i H') (XPost X F α H e)
noncomputable def CO (X : Cx) (e : Option Expr) (o : Option D) : Prop := PO X e (tDO X o)
section
variable {X : Cx} {a b : Expr} {da db : D} {pos p2 : Pos}
end
end Fw
namespace Fw
open PySem PySem.Spec PyProof.Rows L2
section
variable {X : Cx} {a b c : Expr} {da db dc : D} {pos p p2 : Pos}
theorem cs_setItem (i : Nat) {y : Str} {py tpos : Pos} {ik ev : Expr} {dk dv : D} (hk : CE X ik dk) (hv : CE X ev dv) (hN : X.N[i]? = some y := by rfl)
  (hvs : Vis X.env.scope y := by first | exact Or.inl rfl | exact Or.inr (Or.inl rfl) | exact Or.inr (Or.inr rfl)) (hd : (y == ("__debug__" : Str)) = false := by decide) (hcd : (y == ("__classdict__" : Str)) = false := by decide)
  (ha : ∀ v, assign (.Subscript (.Name y py) ik tpos) X.env v = (do
   let ov ← holding [v] (eval (.Name y py) X.env)
   let iv ← holding [v, ov] (eval ik X.env)
   standAt tpos
   holding [v, ov, iv] (setItem ov iv v)
   release [v, ov, iv] []) := by intro _; rfl)
  (hs : swapsWithSole [.Subscript (.Name y py) ik tpos] ev pos.line X.env = pure false := by rfl) (hw : swappedStores [.Subscript (.Name y py) ik tpos] ev X.env = pure none := by rfl)
  (h1 : (assignEach [.Subscript (.Name y py) ik tpos] X.env).map (·.2) = [assign (.Subscript (.Name y py) ik tpos) X.env] := by rfl) :
  CS X (.Assign [.Subscript (.Name y py) ik tpos] ev pos) (sSetItem i dk dv) :=
 PS.imp (ps_asg hv (pg_sub (pe_var hN hvs hd hcd) hk set_list ha) hs hw h1) fun D σ H hX11_ => by
  obtain ⟨F, α, e, μ, S, h⟩ := hX11_
  refine ⟨F, α, e, μ, S, (PostS.toS h).mono (fun y μ1 h v H1 F1 α1 x1 S1 o1 => ?_) fun _ _ h => h⟩
  obtain ⟨x, hx, h⟩ := PostS.lift h
  obtain ⟨ov, hov, oo⟩ := S1.sl i x hx
  refine ⟨ov, hov, F1, α1, e, μ1, S1, (PostS.toS h).mono (fun z μ2 h v2 H2 F2 α2 x2 S2 o2 => ?_) fun _ _ h => h.mono x1⟩
  obtain ⟨k, hk, h⟩ := PostS.lift h
  have h := h.toS
  have nk := now_of S2.st o2 hk
  cases hz : frz y μ2 with
  | err c μ3 => exact absurd hz (frz_no y μ2 c μ3)
  | bad => rw [hz] at h; exact h.elim
  | ok t μ3 =>
   rw [hz] at h
   obtain ⟨μ4, ha4, h⟩ := PostS.lift h
   obtain ⟨F3, s3, n3, S3, r3⟩ := frz_ok S2.st (o1.mono x2.same x2.pre) hz
   cases x with
   | cel j =>
    obtain ⟨ad, had, rfl⟩ := oo
    cases k with
    | int ki =>
     cases nk.int
     unfold setAt at ha4
     simp only at ha4
     have hc : ∃ us jj, μ3[j]? = some (true, .lst us) ∧ Fw.ixN us.length ki = some jj ∧ μ4 = μ3.set j (true, .lst (us.set jj t)) := by
      split at ha4
      ·rename_i us hjs
       obtain ⟨jj, e1, e2⟩ := Option.map_eq_some_iff.mp ha4
       exact ⟨us, jj, hjs, e1, e2.symm⟩
      ·cases ha4
     obtain ⟨us, jj, hj3, hjj, rfl⟩ := hc
     have ha3 : α2[j]? = some ad := pre_get x2.pre had
     obtain ⟨_, ws, hw, rw'⟩ := (S3.cell j true _ ad hj3 ha3).1 rfl
     have el := rw'.length
     refine ⟨ad, ws, ki, jj, rfl, rfl, hw, by rw [← el]; exact hjj, ?_⟩
     have x3 : Ex F α H F3 α2 H2 := x1.trans (x2.trans (Ex.of_ne s3 n3))
     exact h σ _ F3 α2 (x3.trans (Ex.put ha3)) ((S2.of s3 (List.prefix_refl _) S3).of (Same.refl _) (List.prefix_refl _) (put_ok S3 hj3 ha3 ⟨_, upd_same, rw'.set jj r3⟩))
    | _ => unfold setAt at ha4; cases ha4
   | val t => cases k <;> (unfold setAt at ha4; cases ha4)
   | box xs => cases k <;> (unfold setAt at ha4; cases ha4)
end
end Fw
namespace Fw
open PySem PySem.Spec PyProof.Rows L2
section
variable {K : PySem.W.Frag} {F : Hp}
theorem valT_pos {p : Key × T} {r : List (Key × T)} {k : Key} (e : p.1 = k) : valT (p :: r) k = some p.2 := by simp [valT, List.find?_cons, e]
theorem valT_neg {p : Key × T} {r : List (Key × T)} {k : Key} (e : ¬ p.1 = k) : valT (p :: r) k = valT r k := by simp [valT, List.find?_cons, e]
theorem RepD.val : ∀ {kts : List (Key × T)} {kvs : List (Key × V)} (k : Key), RepD K F kts kvs → (valT kts k = none ∧ valV kvs k = none) ∨ ∃ t v, valT kts k = some t ∧ valV kvs k = some v ∧ Rep K F t v
 | [], kvs, k, h => by rw [RepD] at h; subst h; exact .inl ⟨rfl, rfl⟩
 | (k0, t) :: kts, kvs, k, h => by
  rw [RepD] at h
  obtain ⟨v, kvs', rfl, q, r⟩ := h
  by_cases e : k0 = k
  ·exact .inr ⟨t, v, valT_pos (p := (k0, t)) e, valV_pos (p := (k0, v)) e, q⟩
  ·rw [valT_neg (p := (k0, t)) e, valV_neg (p := (k0, v)) e]
   exact RepD.val k r
end
section
variable {X : Cx} {a b c : Expr} {da db dc : D} {pos p p2 : Pos} {k : Nat}
end
end Fw
namespace L2
open PySem PySem.Spec PyProof.Rows
end L2
namespace Fw
open PySem PySem.Spec PyProof.Rows L2
section
variable {K : PySem.W.Frag} {F : Hp}
end
section
variable {X : Cx} {a b : Expr} {da db : D} {pos p : Pos}
theorem ce_blt2 {id : String} {x : Str} {r : List V → Hp → VK → Prop} {g : T → T → Option T} (hc : CallR X (.builtin id) r) (hs : CallSem2 X.K r g) (hm : X.mg x = none) (hv : bootBuiltins x = some (.builtin id)) (ha : CE X a da) (hb : CE X b db) (hg : Gl X x := by rfl) (hn : x ≠ "__name__" := by decide)
  (hdb : (x == ("__debug__" : Str)) = false := by decide) (hs1 : starEach [a, b] X.env = (false, eval a X.env) :: starEach [b] X.env := by rfl) (hs2 : starEach [b] X.env = (false, eval b X.env) :: starEach [] X.env := by rfl) (hpl : (backTo pos (starEach [b] X.env)).any (·.1) = false := by rfl) : CE X (.Call (.Name x p) [a, b] [] pos) (dBin g da db) :=
 PE.imp (pe_callB hc hg hm hv (ca_cons ha (ca_cons hb ca_nil hs2) hs1) hn hdb hs1 hpl) (call2 hs)
theorem ce_min (hm : X.mg "min" = none) (ha : CE X a da) (hb : CE X b db) (hc : X.calm = true := by rfl) (hg : Gl X "min" := by rfl) (hs1 : starEach [a, b] X.env = (false, eval a X.env) :: starEach [b] X.env := by rfl) (hs2 : starEach [b] X.env = (false, eval b X.env) :: starEach [] X.env := by rfl) (hpl : (backTo pos (starEach [b] X.env)).any (·.1) = false := by rfl) :
  CE X (.Call (.Name "min" p) [a, b] [] pos) (dBin fMin da db) := ce_blt2 (call_min2 hc) (by
 intro F H v u t t' w Q s hv hu hw q
 cases t <;> cases t' <;> first | cases hw | skip
 exact ⟨_, _, by rw [hv.int, hu.int], q _ H F Grow.refl (Rep.int' _)⟩) hm (by decide +kernel) ha hb hg (by decide) (by decide) hs1 hs2 hpl
end
end Fw
namespace Fw
open PySem PySem.Spec PyProof.Rows L2
section
variable {X : Cx} {a b : Expr} {da db : D} {pos p : Pos} {k : Nat}
end
end Fw
namespace L2
open PySem PySem.Spec PyProof.Rows
open AutoSeq1 (wpAny_loadPart')
section
variable {prog : Program} {w : World} {A : Around} {E : Value → Shared → Prop} {s : Shared}
end
end L2
namespace Fw
open PySem PySem.Spec PyProof.Rows L2
end Fw
namespace L2
open PySem PySem.Spec PyProof.Rows
end L2
namespace Fw
open PySem PySem.Spec PyProof.Rows L2
section
variable {K : PySem.W.Frag}
theorem flat_rep {F : Hp} {t : T} {v : V} (h : Rep K F t v) (f : flatT t = true) : flatV v = true ∧ ∀ {t' : T} {v' : V}, Rep K F t' v' → flatT t' = true → eqV v v' = eqT t t' := by
 cases t with
 | non => cases h.of_non; exact ⟨rfl, fun {t' v'} h' f' => by
   cases t' with
   | non => cases h'.of_non; simp [eqV, eqT]
   | bl b => cases h'.of_bl; simp [eqV, eqT]
   | int b => cases h'.of_int; simp [eqV, eqT]
   | str b => cases h'.of_str; simp [eqV, eqT]
   | _ => cases f'⟩
 | bl c => cases h.of_bl; exact ⟨rfl, fun {t' v'} h' f' => by
   cases t' with
   | non => cases h'.of_non; simp [eqV, eqT]
   | bl b => cases h'.of_bl; simp [eqV, eqT]
   | int b => cases h'.of_int; simp [eqV, eqT]
   | str b => cases h'.of_str; simp [eqV, eqT]
   | _ => cases f'⟩
 | int c => cases h.of_int; exact ⟨rfl, fun {t' v'} h' f' => by
   cases t' with
   | non => cases h'.of_non; simp [eqV, eqT]
   | bl b => cases h'.of_bl; simp [eqV, eqT]
   | int b => cases h'.of_int; simp [eqV, eqT]
   | str b => cases h'.of_str; simp [eqV, eqT]
   | _ => cases f'⟩
 | str c => cases h.of_str; exact ⟨rfl, fun {t' v'} h' f' => by
   cases t' with
   | non => cases h'.of_non; simp [eqV, eqT]
   | bl b => cases h'.of_bl; simp [eqV, eqT]
   | int b => cases h'.of_int; simp [eqV, eqT]
   | str b => cases h'.of_str; simp [eqV, eqT]
   | _ => cases f'⟩
 | _ => cases f
theorem flats_rep {F : Hp} {t : T} {v : V} (h : Rep K F t v) (f : flatT t = true) : ∀ {us : List T} {vs : List V}, RepL K F us vs → us.all flatT = true → vs.all flatV = true ∧ inV v vs = inT t us
 | [], vs, r, _ => by rw [RepL] at r; subst r; exact ⟨rfl, rfl⟩
 | u :: us, vs, r, hf => by
  rw [RepL] at r
  obtain ⟨v1, vs1, rfl, r1, r2⟩ := r
  rw [List.all_cons, Bool.and_eq_true] at hf
  obtain ⟨a, b⟩ := flats_rep h f r2 hf.2
  obtain ⟨c, d⟩ := flat_rep r1 hf.1
  refine ⟨by rw [List.all_cons, c, a]; rfl, ?_⟩
  unfold inV inT at b ⊢
  rw [List.any_cons, List.any_cons, b, d h f]
theorem Now.flat {F H : Hp} {v : V} {t : T} (h : Now K F H v t) (f : flatT t = true) : Rep K F t v := by
 cases t with
 | non => exact h
 | bl b => exact h
 | int b => exact h
 | str b => exact h
 | _ => cases f
theorem sem_in : OpSem K (rIn K false) fIn := by
 intro F H v u t t' w Q s hv hu hw q
 unfold fIn at hw
 cases e : seqItems t' with
 | none => rw [e] at hw; cases hw
 | some us =>
  rw [e] at hw
  simp only at hw
  by_cases hf : (flatT t && us.all flatT) = true
  ·rw [if_pos hf] at hw
   cases hw
   rw [Bool.and_eq_true] at hf
   obtain ⟨a, vs, k, rfl, hq, hl, _⟩ := seq_now s hu e
   obtain ⟨f1, f2⟩ := flats_rep (hv.flat hf.1) hf.1 hl hf.2
   have fx := (flat_rep (hv.flat hf.1) hf.1).1
   refine ⟨a, vs, rfl, ?_, fx, f1, ?_⟩
   ·cases k with
    | true => exact .inl hq
    | false => exact .inr hq
   ·rw [f2]; exact q _ H F Grow.refl (Rep.bl' _)
  ·rw [if_neg hf] at hw; cases hw
theorem band_one (i : Int) (h : 0 ≤ i) : Builtin.bitAnd i 1 = i % 2 := by
 obtain ⟨n, rfl⟩ := Int.eq_ofNat_of_zero_le h
 unfold Builtin.bitAnd
 simp [Nat.and_one_is_mod]
end
section
variable {X : Cx} {a b c : Expr} {da db dc : D} {pos p p2 : Pos} {k : Nat}
theorem ce_in (hr : Room k X.A) (ha : CE X a da) (hb : CE X b db) (hm : behindInMarks .In b = false := by with_unfolding_all rfl) : CE X (.Compare a [.In] [b] pos) (dBin fIn da db) := ce_cmp op_in_seq sem_in hm ha hb
theorem ct_in (hr : Room k X.A) (ha : CE X a da) (hb : CE X b db) (hm : behindInMarks .In b = false := by with_unfolding_all rfl) : CT X (.Compare a [.In] [b] pos) (dBin fIn da db) := ct_cmp op_in_seq sem_in hm ha hb
end
end Fw
namespace L2
open PySem PySem.Spec PyProof.Rows
end L2
namespace Fw
open PySem PySem.Spec PyProof.Rows L2
section
variable {X : Cx} {a b c : Expr} {da db dc : D} {pos p p2 pu pc : Pos} {k : Nat}
end
end Fw
namespace Fw
open PySem PySem.Spec PyProof.Rows L2
section
variable {X : Cx} {a b c : Expr} {da db dc : D} {pos p p2 pu pc : Pos} {k : Nat}
end
end Fw
namespace Fw
open PySem PySem.Spec PyProof.Rows L2
section
variable {X : Cx} {pos : Pos}
end
end Fw
namespace Fw
open PySem PySem.Spec PyProof.Rows L2
section
variable {X : Cx} {pos p : Pos} {k : Nat} {a : Expr} {da : D}
end
end Fw
namespace Fw
open PySem PySem.Spec PyProof.Rows L2
section
variable {X : Cx} {a b : Expr} {da db : D} {pos p : Pos} {k : Nat}
theorem ce_strI (hm : X.mg "str" = none) (ha : CE X a da) (hg : Gl X "str" := by rfl) (hs1 : starEach [a] X.env = (false, eval a X.env) :: starEach [] X.env := by rfl) (hpl : (backTo pos (starEach [] X.env)).any (·.1) = false := by rfl) :
  CE X (.Call (.Name "str" p) [a] [] pos) (dUn fStr da) := ce_ty1 call_str_int (by
 intro F H v t w Q s hv hw q
 cases t with
 | int i =>
  by_cases hz : i.natAbs.log2 < 1920
  ·rw [fStr_int i hz] at hw
   cases hw
   cases hv.int
   exact ⟨i, rfl, hz, q _ H F Grow.refl (Rep.str' _)⟩
  ·rw [fStr, if_neg hz] at hw; cases hw
 | _ => cases hw) hm (by decide +kernel) ha hg (by decide) (by decide) hs1 hpl
end
end Fw
namespace Fw
open PySem PySem.Spec PyProof.Rows L2
section
variable {X : Cx} {a b : Expr} {da db : D} {pos : Pos}
end
end Fw
namespace Fw
open PySem PySem.Spec PyProof.Rows L2
theorem band_oneA (i : Int) : Builtin.bitAnd i 1 = i % 2 := by
 by_cases h : 0 ≤ i
 ·exact band_one i h
 ·unfold Builtin.bitAnd
  rw [decide_eq_false h, decide_eq_true (show (0 : Int) ≤ 1 by omega)]
  show (1 : Int) - (((1 : Int).toNat &&& (Builtin.bitNot i).toNat : Nat) : Int) = _
  rw [show (1 : Int).toNat = 1 from rfl, Nat.and_comm, Nat.and_one_is_mod]
  unfold Builtin.bitNot
  omega
theorem sem_bandA {K : PySem.W.Frag} : OpSem K (rI0 fun i j => .int (Builtin.bitAnd i j)) fBandA := by
 intro F H v u t t' w Q s hv hu hw q
 cases t <;> cases t' <;> first | cases hw | skip
 rename_i i j
 have hw : (if j = 1 then some (T.int (i % 2)) else none) = some w := hw
 by_cases hc : j = 1
 ·rw [if_pos hc] at hw
  cases hw
  subst hc
  cases hv.int
  cases hu.int
  refine ⟨i, 1, rfl, rfl, ?_⟩
  show Q (V.int (Builtin.bitAnd i 1)) H
  rw [band_oneA i]
  exact q _ H F Grow.refl (Rep.int' _)
 ·rw [if_neg hc] at hw; cases hw
theorem ce_bandA {X : Cx} {a b : Expr} {da db : D} {pos : Pos} (ha : CE X a da) (hb : CE X b db) : CE X (.BinOp a .BitAnd b pos) (dBin fBandA da db) := ce_bin op_and sem_bandA ha hb
section
variable {X : Cx} {body : List Stmt} {es : List Expr} {ds : List D} {d : DS} {pos np lp : Pos}
end
end Fw
namespace L2
open PySem PySem.Spec PyProof.Rows
section
variable {prog : Program} {w : World} {A : Around} {E : Value → Shared → Prop} {s : Shared}
end
section
variable {prog : Program} {w : World} {A : Around} {E : Value → Shared → Prop} {s : Shared}
end
end L2
namespace L2
open PySem PySem.Spec PyProof.Rows
end L2
namespace Fw
open PySem PySem.Spec PyProof.Rows L2
end Fw
namespace L2
open PySem PySem.Spec PyProof.Rows
open AutoSeq1 (wpAny_loadPart')
section
variable {prog : Program} {w : World} {A : Around} {E : Value → Shared → Prop} {s : Shared}
end
end L2
namespace HT
open PySem PySem.Spec PyProof.Rows L2
section
variable {prog : Program} {w : World} {A : Around} {E : Value → Shared → Prop} {s : Shared}
end
end HT
namespace L2
open PySem PySem.Spec PyProof.Rows
end L2
namespace Fw
open PySem PySem.Spec PyProof.Rows L2
end Fw
namespace Fw
open PySem L2 PyProof.Rows
end Fw
namespace Fw
open PySem L2 PyProof.Rows
section
variable {X : Cx} {pins : List (Addr × Obj)} {σ : L2.St} {H : Hp} {s : Shared}
end
section
variable {X : Cx} {a : Expr} {da : D} {p pos : Pos} {b : Bool}
end
section
variable {X : Cx} {E : Value → Shared → Prop} {pins : List (Addr × Obj)} {σ : L2.St} {H : Hp} {s : Shared}
end
end Fw
namespace L2
open PySem PySem.Spec PyProof.Rows Fw
section
variable {X : Cx}
theorem vals_intsAre : ∀ {us : List Value} {ns : List Int}, IntsAre us ns → Vals (ns.map V.int) us
 | _, _, .nil => .nil
 | _, _, .cons _ _ h => .cons ⟨_, rfl⟩ (vals_intsAre h)
end
end L2
namespace Fw
open PySem PySem.Spec PyProof.Rows L2
section
variable {X : Cx} {a : Expr} {da : D} {p pos : Pos}
end
end Fw
namespace Fw
open PySem PySem.Spec PyProof.Rows L2
section
variable {X : Cx} {pins : List (Addr × Obj)} {σ : L2.St} {H : Hp} {s : Shared} {k : Nat}
end
section
variable {X : Cx} {a b : Expr} {da db : D} {pos : Pos} {k : Nat}
end
end Fw
namespace Fw
open PySem
noncomputable def asStr : SV → Option Str
 | .val (.str s) => some s
 | _ => none
@[simp] theorem asStr_str (s : Str) : asStr (.val (.str s)) = some s := (rfl)
noncomputable def asStrs : List T → Option (List Str)
 | [] => some []
 | .str s :: ts => (asStrs ts).map (s :: ·)
 | _ :: _ => none
theorem asStrs_eq : ∀ {ts : List T} {ys : List Str}, asStrs ts = some ys → ts = ys.map T.str
 | [], ys, h => by cases h; rfl
 | .str s :: ts, ys, h => by
  obtain ⟨zs, h1, rfl⟩ := Option.map_eq_some_iff.mp (show (asStrs ts).map (s :: ·) = some ys from h)
  rw [asStrs_eq h1]; rfl
 | .int _ :: _, _, h => by cases h
 | .bl _ :: _, _, h => by cases h
 | .non :: _, _, h => by cases h
 | .lst _ :: _, _, h => by cases h
 | .tup _ :: _, _, h => by cases h
 | .dct _ :: _, _, h => by cases h
 | .exc _ _ :: _, _, h => by cases h
theorem asStrs_map : ∀ ys : List Str, asStrs (ys.map T.str) = some ys
 | [] => rfl
 | y :: ys => by
  show (asStrs (ys.map T.str)).map (y :: ·) = _
  rw [asStrs_map ys]; rfl
noncomputable def joinT (sep : Str) : T → Option T
 | .lst ts => (asStrs ts).bind fun ys => if JoinOk sep ys = true then some (.str (Txt.join sep ys)) else none
 | _ => none
noncomputable def dMeth (g : Str → T → Option T) (a b : D) : D := fun e μ => (a e μ).bind fun x μ1 => (R.lift (asStr x) μ1).bind fun s μ1 => (b e μ1).bind fun y μ2 => R.lift (((rd μ2 y).bind (g s)).map SV.val) μ2
theorem dMeth_is (g : Str → T → Option T) (a b : D) (e : Slots) (μ : Store) : dMeth g a b e μ = (a e μ).bind fun x μ1 => (R.lift (asStr x) μ1).bind fun s μ1 => (b e μ1).bind fun y μ2 => R.lift (((rd μ2 y).bind (g s)).map SV.val) μ2 := (rfl)
end Fw
namespace Fw
open PySem
noncomputable def fInS : T → T → Option T
 | .str i, .str j => some (.bl (!(Builtin.Str.occurrences j i 0 j.length 1).isEmpty))
 | _, _ => none
end Fw
namespace L2
open PySem PySem.Spec PyProof.Rows Fw
section
variable {X : Cx}
theorem vals_strs : ∀ {ys : List Str} {us : List Value}, Vals (ys.map V.str) us → ∃ l : List (Str × Tok), PySem.strValues l = us ∧ l.map (fun x => x.1) = ys
 | [], _, .nil => ⟨[], rfl, rfl⟩
 | y :: ys, _, .cons ⟨t, e⟩ h => by
  obtain ⟨l, h1, h2⟩ := vals_strs h
  exact ⟨(y, t) :: l, by rw [← h1, e]; rfl, by rw [List.map_cons, h2]⟩
theorem mt_join : MtR X "str.join" (fun x vs H Q => ∃ (sep : Str) (p : Addr) (ys : List Str), x = .str sep ∧ vs = [.ref p] ∧ SqL X.K H p (ys.map V.str) ∧ JoinOk sep ys = true ∧ Q (.str (Txt.join sep ys)) H) := by
 intro pins s σ H x vs v us Q I rx rv h
 obtain ⟨sep, p, ys, rfl, rfl, hq, ho, q⟩ := h
 obtain ⟨t, rfl⟩ := rx
 obtain ⟨u, rfl, ru⟩ := rv.one
 cases ru
 obtain ⟨its, rv, pl, hz⟩ := I.list hq
 obtain ⟨l, rfl, h2⟩ := vals_strs rv
 refine SC.join pl.isList h2 ho fun t' k => ?_
 exact ⟨.str (Txt.join sep ys), H, I.tok k, ⟨t', rfl⟩, q⟩
end
end L2
namespace Fw
open PySem PySem.Spec PyProof.Rows L2
theorem RepL.strs' {K : PySem.W.Frag} {F : Hp} : ∀ {bs : List Str} {vs : List V}, RepL K F (bs.map T.str) vs → vs = bs.map V.str
 | [], vs, h => by rw [List.map_nil, RepL] at h; exact h
 | b :: bs, vs, h => by
  rw [List.map_cons, RepL] at h
  obtain ⟨v, vs', rfl, q, r⟩ := h
  rw [r.strs', q.of_str]; rfl
section
variable {X : Cx}
noncomputable def MethSem (K : PySem.W.Frag) (r : V → List V → Hp → VK → Prop) (g : Str → T → Option T) : Prop := ∀ x F H u t w Q, Same F H → Now K F H u t → g x t = some w →
 (∀ v' H' F', Grow F H F' H' → Rep K F' w v' → Q v' H') → r (.str x) [u] H Q
theorem ce_meth {o e1 : Expr} {do_ de : D} {apos cpos : Pos} {name : Str} {id : String} {r : V → List V → Hp → VK → Prop} {g : Str → T → Option T} (slot : Slot "str" name id) (hty : typeOf (.builtin id) = pure (.type "method_descriptor")) (hm : MtR X id r) (hg : MethSem X.K r g) (ho : CE X o do_) (he : CE X e1 de) (hbase : attributeBase o name X.env (eval o X.env) = eval o X.env := by rfl)
  (hfew : ((backTo cpos (starEach [e1] X.env)).all (fun x => !x.1) && (backToKw cpos (keywordEach [] X.env)).all (fun x => x.1.isSome) && decide (([e1] : List Expr).length + ([] : List Keyword).length + (if ([] : List Keyword).isEmpty then 0 else 1) < 30)) = true := by rfl)
  (hline : (apos.endLine == cpos.line) = true := by rfl) (hs1 : starEach [e1] X.env = (false, eval e1 X.env) :: starEach [] X.env := by rfl) (hpl : (backTo cpos (starEach [] X.env)).any (·.1) = false := by rfl) :
  CE X (.Call (.Attribute o name apos) [e1] [] cpos) (dMeth g do_ de) :=
 PE.imp (pe_bm PySem.F.plainAttrs_str slot hty hm ho (ca_cons he ca_nil hs1) hbase hfew hline hs1 hpl) fun σ H Q hX11_ => by
  obtain ⟨F, α, e, μ, S, h⟩ := hX11_
  refine ⟨F, α, e, μ, S, (R.wp_bind h).mono (fun x μ1 h v H1 F1 α1 x1 S1 o1 => ?_) fun _ _ h => h⟩
  obtain ⟨sep, hl, h3⟩ := R.wp_lift (R.wp_bind h)
  cases x with
  | val t =>
   cases t with
   | str z =>
    cases hl
    have o1 : v = .str sep := Rep.of_str (show Rep X.K F1 (.str sep) v from o1)
    subst o1
    refine ⟨rfl, args1 ⟨F1, α1, e, μ1, S1, (R.wp_bind h3).mono (fun y μ2 h v2 H2 F2 α2 x2 S2 o2 => ?_) fun _ _ h => h.mono x1⟩⟩
    obtain ⟨w, hw, h⟩ := R.wp_lift h
    obtain ⟨t, ht, rfl⟩ := Option.map_eq_some_iff.mp hw
    obtain ⟨u, hu, hj⟩ := Option.bind_eq_some_iff.mp ht
    exact hg sep F2 H2 v2 u t Q S2.st.ext (now_of S2.st o2 hu) hj fun v' H' F' gr rp => h v' H' F' α2 ((x1.trans x2).trans (gr.ex S2.st.ext)) (S2.grow gr) rp
   | _ => cases hl
  | cel j => cases hl
  | box xs => cases hl
theorem sem_join {K : PySem.W.Frag} : MethSem K (fun x vs H Q => ∃ (sep : Str) (p : Addr) (ys : List Str), x = .str sep ∧ vs = [.ref p] ∧ SqL K H p (ys.map V.str) ∧ JoinOk sep ys = true ∧ Q (.str (Txt.join sep ys)) H) joinT := by
 intro x F H u t w Q s hv hw q
 cases t with
 | lst ts =>
  obtain ⟨ys, h1, h2⟩ := Option.bind_eq_some_iff.mp (show ((asStrs ts).bind fun ys => if JoinOk x ys = true then some (T.str (Txt.join x ys)) else none) = some w from hw)
  by_cases hok : JoinOk x ys = true
  ·rw [if_pos hok] at h2
   cases h2
   obtain ⟨a, vs, rfl, hq, hl⟩ := hv.lst_
   rw [asStrs_eq h1] at hl
   rw [hl.strs'] at hq
   exact ⟨x, a, ys, rfl, rfl, hq, hok, q _ H F Grow.refl (by rw [Rep])⟩
  ·rw [if_neg hok] at h2; cases h2
 | _ => cases hw
end
end Fw
namespace Fw
open PySem PySem.Spec PyProof.Rows L2
section
variable {X : Cx} {a b : Expr} {da db : D} {pos : Pos}
theorem sem_inS {K : PySem.W.Frag} : OpSem K (fun x y H Q => ∃ i j, x = .str i ∧ y = .str j ∧ Q (.bl (!(Builtin.Str.occurrences j i 0 j.length 1).isEmpty)) H) fInS := by
 intro F H v u t t' w Q s hv hu hw q
 cases t with
 | str i =>
  cases t' with
  | str j =>
   cases hw
   have e1 : v = .str i := hv
   have e2 : u = .str j := hu
   exact ⟨i, j, e1, e2, q _ H F Grow.refl (by rw [Rep])⟩
  | _ => cases hw
 | _ => cases hw
end
end Fw
namespace L2
open PySem PySem.Spec PyProof.Rows Fw
section
variable {X : Cx}
end
end L2
namespace Fw
open PySem PySem.Spec PyProof.Rows L2
section
variable {X : Cx} {a : Expr} {da : D} {pos p2 : Pos}
end
end Fw
namespace L2
open PySem PySem.Spec PyProof.Rows
end L2
namespace Fw
open PySem PySem.Spec PyProof.Rows L2
end Fw
namespace L2
open PySem PySem.Spec PyProof.Rows Fw
end L2
namespace Fw
open PySem PySem.Spec PyProof.Rows L2
end Fw
namespace L2
open PySem PySem.Spec PyProof.Rows Fw
section
variable {X : Cx}
end
end L2
namespace Fw
open PySem PySem.Spec PyProof.Rows L2
section
variable {X : Cx}
end
end Fw
namespace Fw
open PySem
end Fw
namespace Fw
open PySem PySem.Spec PyProof.Rows L2
section
variable {X : Cx}
variable {a b : Expr} {da db : D} {pos : Pos}
theorem ct_inS (ha : CE X a da) (hb : CE X b db) (hm : behindInMarks .In b = false := by rfl) : CT X (.Compare a [.In] [b] pos) (dBin fInS da db) := ct_cmp op_in_str sem_inS hm ha hb
theorem ce_join {apos cpos : Pos} (ho : CE X a da) (he : CE X b db) (hbase : attributeBase a "join" X.env (eval a X.env) = eval a X.env := by rfl)
  (hfew : ((backTo cpos (starEach [b] X.env)).all (fun x => !x.1) && (backToKw cpos (keywordEach [] X.env)).all (fun x => x.1.isSome) && decide (([b] : List Expr).length + ([] : List Keyword).length + (if ([] : List Keyword).isEmpty then 0 else 1) < 30)) = true := by rfl)
  (hline : (apos.endLine == cpos.line) = true := by rfl) (hs1 : starEach [b] X.env = (false, eval b X.env) :: starEach [] X.env := by rfl) (hpl : (backTo cpos (starEach [] X.env)).any (·.1) = false := by rfl) :
  CE X (.Call (.Attribute a "join" apos) [b] [] cpos) (dMeth joinT da db) := ce_meth PySem.F.slot_str_join PySem.F.type_str_join mt_join sem_join ho he hbase hfew hline hs1 hpl
end
end Fw
namespace L2
open PySem PySem.Spec PyProof.Rows Fw
theorem list_extend_any (l : Addr) (items : Array Value) (n : Nat) (b : Addr) (o2 : Obj) (items2 : Array Value) (n2 : Nat) (h1 : o2.cls = .type "list") (h2 : o2.dict = none) (h3 : o2.data = .seq items2 n2) (hc0 : ¬(!items.isEmpty && Builtin.List.listTooLong (items.size + items2.size)) = true) (hc1 : items.size ≤ sizeLine) (hs2 : items.size + items2.size ≤ sizeLine + 1) :
  Meets (Builtin.«list.extend» ⟨[.ref l, .ref b], []⟩) (fun _ R s => s.heap.get? l = some { cls := .type "list", dict := none, data := .seq items n, slots := #[] } ∧ s.heap.get? b = some o2 ∧ R (.ok (.ret Value.none)) { s with heap := s.heap.update l (Obj.mapSeq fun x => x ++ items2), toks := s.toks }) :=
 .of_wp fun prog w A R s h => by
  obtain ⟨c2, d2, dt2, sl2⟩ := o2
  cases h1; cases h2; cases h3
  obtain ⟨hp, g, d, tk, os⟩ := s; obtain ⟨hl, hb, h⟩ := h; have f1 := AutoSeq1.idx_int; have f2 := AutoSeq1.sub_tuple_tuple; have f3 := AutoSeq1.sub_list_list; have f4 := AutoSeq1.sub_tuple_list; have f5 := AutoSeq1.sub_list_tuple;
  have hz' : (items ++ items2).size ≤ sizeLine + 1 := by rw [Array.size_append]; exact hs2
  wp_walk using (wpAny_updateSeq hl rfl (hz := hc1) (_hz' := hz')), AutoSeq1.wpAny_loadPart' hl, AutoSeq1.wpAny_loadPart' hb; exact ⟨_, rfl, h⟩
section
variable {X : Cx}
noncomputable def rExtQ (K : PySem.W.Frag) : V → List V → Hp → VK → Prop := fun x vs H Q => ∃ l b xs zs, x = .ref l ∧ vs = [.ref b] ∧ H l = some (.lst xs) ∧ SqL K H b zs ∧ xs.length + zs.length ≤ sizeLine ∧ Q .non (upd H l (.lst (xs ++ zs)))
theorem mt_extendQ : MtM X "list.extend" (rExtQ X.K) := by
 intro pins s σ H x vs v us Q I rx rv h
 obtain ⟨l, b, xs, zs, rfl, rfl, hH, hB, hz, q⟩ := h
 cases rx
 obtain ⟨u, rfl, ru⟩ := rv.one
 cases ru
 obtain ⟨z, its, n, r, hl, e⟩ := I.lstM hH
 obtain ⟨its2, r2, ⟨o2, n2, e2, k1, k2, k3⟩, z2⟩ := I.list hB
 have hl2 := r2.length
 have hsz : its.toArray.size + its2.toArray.size ≤ sizeLine := by rw [List.size_toArray, List.size_toArray]; lia
 have hlong : ¬ (!its.toArray.isEmpty && Builtin.List.listTooLong (its.toArray.size + its2.toArray.size)) = true := by
  rw [notLongL hsz, Bool.and_false]
  exact Bool.false_ne_true
 refine call_meets F.slot_list_extend ⟨_, e, rfl⟩ F.entry_list_extend (F.args_list_extend_2 _ _)
  (list_extend_any l its.toArray n b o2 its2.toArray n2 k1 k2 k3 hlong (by rw [List.size_toArray]; lia) (by lia)) ⟨e, e2, ?_⟩
 refine ⟨.non, _, I.lset (its' := its ++ its2) hH e (by simp) (r.append r2) ?_, rfl, q⟩
 rw [List.length_append]
 lia
end
end L2
namespace Fw
open PySem PySem.Spec PyProof.Rows L2
section
variable {X : Cx} {pos : Pos}
theorem cs_extendV {o e1 : Expr} {do_ de : D} {apos cpos : Pos} (ho : CE X o do_) (he : CE X e1 de) (hbase : attributeBase o "extend" X.env (eval o X.env) = eval o X.env := by rfl)
  (hfew : ((backTo cpos (starEach [e1] X.env)).all (fun x => !x.1) && (backToKw cpos (keywordEach [] X.env)).all (fun x => x.1.isSome) && decide (([e1] : List Expr).length + ([] : List Keyword).length + (if ([] : List Keyword).isEmpty then 0 else 1) < 30)) = true := by rfl)
  (hline : (apos.endLine == cpos.line) = true := by rfl) (hs1 : starEach [e1] X.env = (false, eval e1 X.env) :: starEach [] X.env := by rfl) (hpl : (backTo cpos (starEach [] X.env)).any (·.1) = false := by rfl)
  (hs : swapsWith (.Call (.Attribute o "extend" apos) [e1] [] cpos) none pos.line X.env = pure false := by rfl) :
  CS X (.Expr (.Call (.Attribute o "extend" apos) [e1] [] cpos) pos) (sExtend do_ de) :=
 PS.imp (ps_expr (pe_bm PySem.F.plainAttrs_list PySem.F.slot_list_extend PySem.F.type_list_extend mt_extendQ ho (ca_cons he ca_nil hs1) hbase hfew hline hs1 hpl) hs) fun D σ H hX11_ => by
  obtain ⟨F, α, e, μ, S, h⟩ := hX11_
  refine ⟨F, α, e, μ, S, (PostS.toS h).mono (fun x μ1 h v H1 F1 α1 x1 S1 o1 => ?_) fun _ _ h => h⟩
  obtain ⟨_, hl, h⟩ := h.lift
  cases x with
  | cel j =>
   obtain ⟨ad, ha, rfl⟩ := o1
   have hc : ∃ bb ts, μ1[j]? = some (bb, .lst ts) := by
    unfold lsts at hl
    simp only at hl
    split at hl
    ·exact ⟨_, _, by assumption⟩
    ·cases hl
   obtain ⟨bb, ts, hj⟩ := hc
   have n1 := now_of S1.st (x := .cel j) (t := .lst ts) ⟨ad, ha, rfl⟩ (by rw [rd_cel, hj]; rfl)
   obtain ⟨a', vs, e1, hq, _⟩ := n1.lst_
   cases e1
   refine ⟨.inl ⟨rfl, vs, hq⟩, args1 ⟨F1, α1, e, μ1, S1, (PostS.toS h).mono (fun y μ2 h v2 H2 F2 α2 x2 S2 o2 => ?_) fun _ _ h => h.mono x1⟩⟩
   obtain ⟨μ3, hx3, hpost⟩ := PostS.lift h
   obtain ⟨t, ht, hx3⟩ := Option.bind_eq_some_iff.mp hx3
   cases y with
   | val t' =>
    cases ht
    cases t with
    | lst us =>
     have o2 : Rep X.K F2 (.lst us) v2 := o2
     rw [Rep] at o2
     obtain ⟨p, vs2, rfl, hv2, hr2⟩ := o2
     have hx3 : extendAt (.cel j) (.lst us) μ2 = some μ3 := hx3
     have hcc : ∃ ts2, μ2[j]? = some (true, .lst ts2) ∧ ts2.length + us.length ≤ szL ∧ μ3 = μ2.set j (true, .lst (ts2 ++ us)) := by
      unfold extendAt at hx3
      try simp only at hx3
      split at hx3
      ·rename_i ts2 hj2
       by_cases hz : ts2.length + us.length ≤ szL
       ·rw [if_pos hz] at hx3
        cases hx3
        exact ⟨ts2, hj2, hz, rfl⟩
       ·rw [if_neg hz] at hx3; cases hx3
      ·cases hx3
     obtain ⟨ts2, hj2, hz, rfl⟩ := hcc
     have ha2 : α2[j]? = some ad := pre_get x2.pre ha
     obtain ⟨_, ws, hw, rw'⟩ := (S2.st.cell j true _ ad hj2 ha2).1 rfl
     have l1 := rw'.length
     have l2 := hr2.length
     refine ⟨ad, p, ws, vs2, rfl, rfl, hw, S2.st.ext.seq hv2, by rw [szL_eq] at hz; lia, ?_⟩
     exact hpost σ _ F2 α2 ((x1.trans x2).trans (Ex.put ha2)) (S2.of (Same.refl _) (List.prefix_refl _) (put_ok S2.st hj2 ha2 ⟨_, upd_same, rw'.append hr2⟩))
    | _ => cases hx3
   | cel j => cases ht
   | box xs => cases ht
  | val t => cases hl
  | box xs => cases hl
end
end Fw
namespace Fw
open PySem
end Fw
namespace Fw
open PySem PySem.Spec PyProof.Rows L2
end Fw
namespace L2
open PySem PySem.Spec PyProof.Rows
section
variable {prog : Program} {w : World} {A : Around} {E : Value → Shared → Prop} {s : Shared}
end
noncomputable abbrev eH1 (h : Heap) (l : Addr) : Heap := (h.push (itRec false l)).push { cls := .type "enumerate", data := .fields #[.none, .bool false, .ref h.objs.size, rawInt 1, .none, .none] }
open AutoSeq1 (wpAny_loadPart') in
set_option maxHeartbeats 4000000 in
theorem enum_newT1 (l : Addr) (its : Array Value) (n : Nat) (dc : Option Addr) (sl : Array (Option Value)) (t : Tok) :
  Meets (Builtin.«enumerate.__new__» ⟨[.type "enumerate", .ref l], [("start", .int 1 t)]⟩) (fun _ R s => s.heap.get? l = some { cls := .type "tuple", dict := dc, data := .seq its n, slots := sl } ∧
   R (.ok (.ret (.ref (s.heap.push (itRec false l)).objs.size))) { s with heap := eH1 s.heap l }) :=
 .of_wp fun prog w A R s h => by
  obtain ⟨hp, g, d, tk, os⟩ := s
  obtain ⟨hl, h⟩ := h
  have q1 := sub_enumerate
  have q2 := AutoSeq1.idx_int
  have hT : Heap.IsTuple (Shared.heap ⟨hp, g, d, tk, os⟩) l its := ⟨_, hl, rfl, n, rfl⟩
  wp_walk using wpAny_loadPart' hl
  refine wpAny_stack_any fun st => wpAny_pure ?_
  split
  ·rename_i c _ _ _ _ _
   cases (c == Value.type "enumerate")
   ·(wp_walk using wpAny_loadPart' hl, wpAny_pyIter_tuple hT); exact ⟨_, rfl, h⟩
   ·(wp_walk using wpAny_loadPart' hl, wpAny_pyIter_tuple hT); exact ⟨_, rfl, h⟩
  ·(wp_walk using wpAny_loadPart' hl, wpAny_pyIter_tuple hT); exact ⟨_, rfl, h⟩
end L2
namespace L2
open PySem PySem.Spec PyProof.Rows
section
variable {prog : Program} {w : World} {A : Around} {E : Value → Shared → Prop} {s : Shared}
end
section
variable {M : Model} {A : Around} {E : Value → Shared → Prop} {s : Shared} {env : Env}
end
end L2
namespace Fw
open PySem
end Fw
namespace Fw
open PySem PySem.Spec PyProof.Rows L2
end Fw
namespace Fw.Set
open PySem
noncomputable def Ris (xs : Array Nat) : Prop := ∀ i k d, i < k → k < xs.size → xs.getD i d < xs.getD k d
theorem go_spec {xs : Array Nat} {j : Nat} (hR : Ris xs) : ∀ (fu lo hi : Nat), hi - lo ≤ fu → lo ≤ hi → hi ≤ xs.size → (∀ i, i < lo → xs.getD i j < j) → (∀ i, hi ≤ i → i < xs.size → j ≤ xs.getD i j) →
  SetTable.below.go xs j fu lo hi ≤ xs.size ∧ (∀ i, i < SetTable.below.go xs j fu lo hi → xs.getD i j < j) ∧ (∀ i, SetTable.below.go xs j fu lo hi ≤ i → i < xs.size → j ≤ xs.getD i j)
 | 0, lo, hi, hf, h1, h2, h3, h4 => by
  have e : lo = hi := by lia
  subst e
  exact ⟨h2, h3, h4⟩
 | fu + 1, lo, hi, hf, h1, h2, h3, h4 => by
  unfold SetTable.below.go
  by_cases hl : lo < hi
  ·rw [if_pos hl]
   dsimp only
   have hm : (lo + hi) / 2 < hi := by lia
   have hm2 : lo ≤ (lo + hi) / 2 := by lia
   generalize (lo + hi) / 2 = m at hm hm2
   by_cases hc : xs.getD m j < j
   ·rw [if_pos hc]
    refine go_spec hR fu (m + 1) hi (by lia) (by lia) h2 (fun i hi' => ?_) h4
    by_cases e : i = m
    ·rw [e]; exact hc
    ·exact Nat.lt_trans (hR i m j (by lia) (by lia)) hc
   ·rw [if_neg hc]
    refine go_spec hR fu lo m (by lia) hm2 (by lia) h3 (fun i hi' hi2 => ?_)
    by_cases e : i = m
    ·rw [e]; exact Nat.le_of_not_lt hc
    ·exact Nat.le_trans (Nat.le_of_not_lt hc) (Nat.le_of_lt (hR m i j (by lia) hi2))
  ·rw [if_neg hl]
   have e : lo = hi := by lia
   subst e
   exact ⟨h2, h3, h4⟩
theorem below_spec {xs : Array Nat} (hR : Ris xs) (j : Nat) : SetTable.below xs j ≤ xs.size ∧ (∀ i, i < SetTable.below xs j → xs.getD i j < j) ∧ (∀ i, SetTable.below xs j ≤ i → i < xs.size → j ≤ xs.getD i j) :=
 go_spec hR xs.size 0 xs.size (by lia) (Nat.zero_le _) (Nat.le_refl _) (fun i h => absurd h (Nat.not_lt_zero i)) (fun i h h2 => absurd h2 (Nat.not_lt.mpr h))
theorem getD_of {xs : Array Nat} {i : Nat} (h : i < xs.size) (d : Nat) : xs.getD i d = xs[i] := by simp [Array.getD, h]
theorem below_next {xs : Array Nat} (hR : Ris xs) {i : Nat} (hi : i < xs.size) : SetTable.below xs (xs[i] + 1) = i + 1 := by
 obtain ⟨h1, h2, h3⟩ := below_spec hR (xs[i] + 1)
 generalize SetTable.below xs (xs[i] + 1) = r at h1 h2 h3
 have e : xs.getD i (xs[i] + 1) = xs[i] := getD_of hi _
 by_cases hr : r ≤ i
 ·have := h3 i hr hi
  rw [e] at this; lia
 ·by_cases hr2 : r = i + 1
  ·exact hr2
  ·have := h2 (i + 1) (by lia)
   have q := hR i (i + 1) (xs[i] + 1) (by lia) (by lia)
   rw [e] at q; lia
theorem below_zero {xs : Array Nat} (hR : Ris xs) : SetTable.below xs 0 = 0 := by
 obtain ⟨h1, h2, h3⟩ := below_spec hR 0
 generalize SetTable.below xs 0 = r at h1 h2 h3
 cases r with
 | zero => rfl
 | succ r => exact absurd (h2 0 (Nat.succ_pos _)) (Nat.not_lt_zero _)
noncomputable def Dead (t : SetTable) (j : Nat) : Prop := t.place[SetTable.below t.place j]? ≠ some j
theorem Dead.no {t : SetTable} {j : Nat} (hR : Ris t.place) (h : Dead t j) (i : Nat) (hi : i < t.place.size) : t.place.getD i j ≠ j := by
 intro e
 obtain ⟨h1, h2, h3⟩ := below_spec hR j
 unfold Dead at h
 generalize SetTable.below t.place j = r at h h1 h2 h3
 have hri : r ≤ i := Nat.le_of_not_lt fun q => by have := h2 i q; lia
 have hrs : r < t.place.size := by lia
 have k := h3 r (Nat.le_refl _) hrs
 by_cases q : r = i
 ·subst q
  apply h
  rw [Array.getElem?_eq_getElem hrs, ← getD_of hrs j, e]
 ·have := hR r i j (by lia) hi
  lia
theorem insertAt_getD {xs : Array Nat} {p : Nat} (hp : p ≤ xs.size) (x i d : Nat) : (SetTable.insertAt xs p x).getD i d = if i < p then xs.getD i d else if i = p then x else xs.getD (i - 1) d := by
 have e : (SetTable.insertAt xs p x).getD i d = (SetTable.insertAt xs p x).toList.getD i d := by simp [Array.getD_eq_getD_getElem?, List.getD_eq_getElem?_getD]
 have e2 : ∀ i, xs.getD i d = xs.toList.getD i d := fun i => by simp [Array.getD_eq_getD_getElem?, List.getD_eq_getElem?_getD]
 rw [e, e2, e2, SetTable.toList_insertAt]
 have hl : p ≤ xs.toList.length := by simpa using hp
 generalize xs.toList = l at hl ⊢
 simp only [List.getD_eq_getElem?_getD]
 by_cases h1 : i < p
 ·rw [if_pos h1, List.getElem?_append_left (by rw [List.length_take]; lia), List.getElem?_take_of_lt h1]
 ·rw [if_neg h1, List.getElem?_append_right (by rw [List.length_take]; lia), List.length_take, Nat.min_eq_left hl]
  by_cases h2 : i = p
  ·rw [if_pos h2, h2, Nat.sub_self]; rfl
  ·rw [if_neg h2]
   obtain ⟨q, rfl⟩ : ∃ q, i = p + 1 + q := ⟨i - p - 1, by lia⟩
   rw [show p + 1 + q - p = q + 1 by lia, List.getElem?_cons_succ, List.getElem?_drop, show p + 1 + q - 1 = p + q by lia]
theorem insertAt_size {α : Type} {xs : Array α} {p : Nat} (x : α) : (SetTable.insertAt xs p x).size = xs.size + 1 := by
 have := (SetTable.insertAt_perm xs p x).length_eq
 simpa using this
theorem put_ris {t : SetTable} {j : Nat} (hR : Ris t.place) (h : Dead t j) : Ris (t.put j).1.place := by
 show Ris (SetTable.insertAt t.place (SetTable.below t.place j) j)
 have dn := Dead.no hR h
 obtain ⟨h1, h2, h3⟩ := below_spec hR j
 generalize SetTable.below t.place j = r at h1 h2 h3
 intro i k d hik hk
 rw [insertAt_size] at hk
 rw [insertAt_getD h1, insertAt_getD h1]
 have gd : ∀ i, i < t.place.size → t.place.getD i d = t.place.getD i j := fun i hi => by rw [getD_of hi, getD_of hi]
 by_cases a1 : i < r
 ·rw [if_pos a1]
  by_cases a2 : k < r
  ·rw [if_pos a2]; exact hR i k d hik (by lia)
  ·rw [if_neg a2]
   have b1 := h2 i a1
   rw [gd i (by lia)]
   by_cases a3 : k = r
   ·rw [if_pos a3]; exact b1
   ·rw [if_neg a3]
    have b2 := h3 (k - 1) (by lia) (by lia)
    rw [gd (k - 1) (by lia)]
    lia
 ·rw [if_neg a1, if_neg (show ¬ k < r by lia), if_neg (show ¬ k = r by lia)]
  by_cases a3 : i = r
  ·rw [if_pos a3]
   have b2 := h3 (k - 1) (by lia) (by lia)
   have b3 := dn (k - 1) (by lia)
   rw [gd (k - 1) (by lia)]
   lia
  ·rw [if_neg a3]
   exact hR (i - 1) (k - 1) d (by lia) (by lia)
theorem dead_of {t : SetTable} {j : Nat} (h : ∀ i, t.slot j ≠ .live i) : Dead t j := by
 intro e
 apply h (SetTable.below t.place j)
 unfold SetTable.slot
 dsimp only
 rw [if_pos (by rw [e]; simp)]
theorem advance_dummy (t : SetTable) (p : SetTable.Probe) : (t.advance p).dummy = p.dummy := by
 unfold SetTable.advance
 split <;> rfl
theorem probe_go {t : SetTable} {f : Nat → Int} {h : Int} : ∀ (fu : Nat) (p : SetTable.Probe) (j : Nat) (d : Option Nat), (∀ x, p.dummy = some x → Dead t x) → SetTable.probe.go t f h fu p = some (.empty j d) → Dead t j ∧ ∀ x, d = some x → Dead t x
 | 0, p, j, d, _, e => by unfold SetTable.probe.go at e; cases e
 | fu + 1, p, j, d, hd, e => by
  unfold SetTable.probe.go at e
  cases hs : t.slot p.j with
  | empty =>
   rw [hs] at e
   cases e
   exact ⟨dead_of (fun i q => by rw [hs] at q; cases q), hd⟩
  | dummy =>
   rw [hs] at e
   refine probe_go fu _ j d (fun x hx => ?_) e
   rw [advance_dummy] at hx
   cases hx
   exact dead_of fun i q => by rw [hs] at q; cases q
  | live i =>
   rw [hs] at e
   dsimp only at e
   split at e
   ·cases e
   ·exact probe_go fu _ j d (fun x hx => hd x (by rw [advance_dummy] at hx; exact hx)) e
theorem freeSlot_dead {t : SetTable} {h : Int} {j : Nat} {b : Bool} (e : t.freeSlot h = some (j, b)) : Dead t j := by
 unfold SetTable.freeSlot at e
 split at e
 ·rename_i j' d' hp
  cases e
  obtain ⟨a1, a2⟩ := probe_go _ _ _ _ (fun x hx => by cases hx) hp
  cases d' with
  | none => exact a1
  | some x => exact a2 x rfl
 ·cases e
theorem range_ris (n : Nat) : Ris (Array.range n) := by
 intro i k d hi hk
 rw [getD_of hk, getD_of (Nat.lt_trans hi hk)]
 simpa using hi
theorem standIn_ris (t : SetTable) (n : Nat) : Ris (t.standIn n).place := range_ris n
theorem orStandIn_ris {t : SetTable} (n : Nat) (h : Ris t.place) : Ris (t.orStandIn n).place := by
 unfold SetTable.orStandIn
 split
 ·exact h
 ·exact standIn_ris t n
theorem orStandIn_led (t : SetTable) (n : Nat) : (t.orStandIn n).led = t.led := by
 unfold SetTable.orStandIn
 split <;> rfl
theorem layNew_ris {t : SetTable} (h : Ris t.place) (es : Array (Int × Value)) (k : Int) (x : Value) : Ris (layNew t es k x).2.1.place ∧ (layNew t es k x).2.1.led = t.led := by
 unfold layNew
 split
 ·rename_i sl wd e
  exact ⟨orStandIn_ris _ (put_ris h (freeSlot_dead e)), orStandIn_led _ _⟩
 ·exact ⟨standIn_ris _ _, rfl⟩
theorem pairs_fst (f : Nat → Option Nat) : ∀ (l : List Nat), (l.filterMap fun j => (f j).map (j, ·)).map (·.1) = l.filter fun j => (f j).isSome
 | [] => rfl
 | j :: l => by
  rw [List.filterMap_cons]
  cases h : f j with
  | none => simp [h, pairs_fst f l]
  | some y => simp [h, pairs_fst f l]
theorem ris_of_pairwise {l : List Nat} (h : l.Pairwise (· < ·)) : Ris l.toArray := by
 intro i k d hi hk
 have hk' : k < l.length := by simpa using hk
 rw [getD_of hk, getD_of (Nat.lt_trans hi hk)]
 simpa using List.pairwise_iff_getElem.mp h i k (by lia) hk' hi
theorem laid_ris {mask fi mo : Nat} {led pl : Bool} {hs : Array Int} {t : SetTable} {o : Array Nat} (e : SetTable.laid mask fi mo led pl hs = some (t, o)) : Ris t.place ∧ t.led = led := by
 unfold SetTable.laid at e
 cases hl : SetTable.layClean mask hs with
 | none => rw [hl] at e; cases e
 | some ow =>
  rw [hl] at e
  cases e
  refine ⟨?_, rfl⟩
  show Ris (List.map _ _).toArray
  rw [pairs_fst]
  exact ris_of_pairwise (List.Pairwise.filter _ List.pairwise_lt_range)
theorem relayAll_ris {t : SetTable} (h : Ris t.place) (es : Array (Int × Value)) (n : Nat) : Ris (relayAll t es n).2.1.place ∧ (relayAll t es n).2.1.led = t.led := by
 unfold relayAll
 split
 ·rename_i t' o e
  dsimp only
  split
  ·exact laid_ris e
  ·exact ⟨standIn_ris _ _, rfl⟩
 ·exact ⟨standIn_ris _ _, rfl⟩
end Fw.Set
namespace Fw.Set
open PySem PyProof.Rows
section
variable {prog : Program} {w : World} {A : Around} {E : Value → Shared → Prop} {s : Shared}
noncomputable def SetR (prog : Program) (w : World) (h : Heap) (a : Addr) (S : Int → Bool) (n : Nat) (led : Bool) : Prop :=
 ∃ o es ep t, h.get? a = some o ∧ o.ExactSet ∧ o.data = .set es ep t ∧ ElemsOf (intKind prog w) es.toList ∧ (∀ k, S k = true ↔ ∃ e ∈ es.toList, (intKind prog w).is k e.2 = true) ∧ es.size < scanBound ∧ t.fits es.size = true ∧ es.size = n ∧ Ris t.place ∧ t.led = led
theorem SetR.at {h h' : Heap} {a : Addr} {S : Int → Bool} {n : Nat} {led : Bool} (r : SetR prog w h a S n led) (k : ∀ o, h.get? a = some o → h'.get? a = some o) : SetR prog w h' a S n led :=
 let ⟨o, es, ep, t, e, rest⟩ := r; ⟨o, es, ep, t, k o e, rest⟩
theorem SetR.congr {h : Heap} {a : Addr} {S S' : Int → Bool} {n n' : Nat} {led : Bool} (r : SetR prog w h a S n led) (e : ∀ k, S k = S' k) (en : n = n') : SetR prog w h a S' n' led := by
 cases funext e; cases en; exact r
theorem setR_put {h : Heap} {a : Addr} {o : Obj} {es fs : Array (Int × Value)} {ep : Nat} {t u : SetTable} {S : Int → Bool} {led : Bool} (ho : h.get? a = some o) (hx : o.ExactSet) (hd : o.data = .set es ep t)
  (h1 : ElemsOf (intKind prog w) fs.toList) (h2 : ∀ k, S k = true ↔ ∃ e ∈ fs.toList, (intKind prog w).is k e.2 = true) (h3 : fs.size < scanBound) (h4 : u.fits fs.size = true) (h5 : Ris u.place) (h6 : u.led = led) :
  (h.update a (Obj.putSet fs u)).get? a = some { o with data := .set fs (ep + 1) u } ∧ SetR prog w (h.update a (Obj.putSet fs u)) a S fs.size led := by
 obtain ⟨q, _⟩ := SetOf_store (knd := intKind prog w) ho hx hd h1 h2 h3 h4
 exact ⟨q, _, fs, ep + 1, u, q, hx, rfl, h1, h2, h3, h4, rfl, h5, h6⟩
theorem add_tail {g : Bool → Sem Unit} (hg : ∀ (b : Bool) (z : Shared) (Y : Unit → Shared → Prop), Y () z → wpAny (model prog w) A (g b) Y E z)
  {a : Addr} {o : Obj} {es fs : Array (Int × Value)} {ep : Nat} {t u : SetTable} {S : Int → Bool} {led : Bool} (ho : s.heap.get? a = some o) (hx : o.ExactSet) (hd : o.data = .set es ep t)
  (h1 : ElemsOf (intKind prog w) fs.toList) (h2 : ∀ k, S k = true ↔ ∃ e ∈ fs.toList, (intKind prog w).is k e.2 = true) (h3 : fs.size < scanBound) (h4 : u.fits fs.size = true) (h5 : Ris u.place) (h6 : u.led = led)
  {wd : Bool} {Y : Option Bool → Shared → Prop} (h : ∀ h', Heap.SameBut a s.heap h' → SetR prog w h' a S fs.size led → Y (some true) { s with heap := h' }) :
  wpAny (model prog w) A (do
   storeSet a fs u
   if (!wd && u.tooFull) = true then do
     g (relayAll u fs (SetTable.grown fs.size)).2.2
     storeSet a (relayAll u fs (SetTable.grown fs.size)).1 (relayAll u fs (SetTable.grown fs.size)).2.1
     pure (some true)
    else pure (some true)) Y E s := by
 refine wpAny_bind (wpAny_storeSet_of ho hd ?_ (fits_of_scanBound h3))
 obtain ⟨k1, r1⟩ := setR_put (prog := prog) (w := w) ho hx hd h1 h2 h3 h4 h5 h6
 have sb := Heap.SameBut.update s.heap a (Obj.putSet fs u)
 split
 ·have hp := relayAll_perm u fs (SetTable.grown fs.size)
  have hf := relayAll_fits u fs (SetTable.grown fs.size)
  obtain ⟨hr, hl⟩ := relayAll_ris h5 fs (SetTable.grown fs.size)
  generalize relayAll u fs (SetTable.grown fs.size) = Z at hp hf hr hl ⊢
  obtain ⟨gs, v, gv⟩ := Z
  dsimp only at hp hf hr hl ⊢
  have c1 : ElemsOf (intKind prog w) gs.toList := h1.perm hp
  have c2 : ∀ k, S k = true ↔ ∃ e ∈ gs.toList, (intKind prog w).is k e.2 = true := fun k => (h2 k).trans ⟨fun ⟨e, m, q⟩ => ⟨e, hp.mem_iff.mpr m, q⟩, fun ⟨e, m, q⟩ => ⟨e, hp.mem_iff.mp m, q⟩⟩
  have ez : gs.size = fs.size := by simpa using hp.length_eq
  have c3 : gs.size < scanBound := by rw [ez]; exact h3
  refine wpAny_bind (hg _ _ _ ?_)
  refine wpAny_bind (wpAny_storeSet_of k1 rfl ?_ (fits_of_scanBound c3))
  obtain ⟨_, r2⟩ := setR_put (prog := prog) (w := w) k1 hx rfl c1 c2 c3 hf hr (hl.trans h6)
  rw [ez] at r2
  exact wpAny_pure (h _ (sb.trans (Heap.SameBut.update _ a _)) r2)
 ·exact wpAny_pure (h _ sb r1)
theorem add_R {a : Addr} {S : Int → Bool} {n : Nat} {k : Int} {x : Value} {led : Bool} {Y : Bool → Shared → Prop} (hk : (intKind prog w).is k x = true) (hc : x.scannable = true) (hS : SetR prog w s.heap a S n led) (hr : n + 1 < scanBound)
  (h : ∀ h', Heap.SameBut a s.heap h' → SetR prog w h' a (fun j => S j || decide (j = k)) (if S k then n else n + 1) led → Y (!S k) { s with heap := h' }) :
  wpAny (model prog w) A (setAddHashed a x ((intKind prog w).hash k)) Y E s := by
 obtain ⟨o, es, ep, t, ho, hx, hd, hel, hm, hb, hf, hn, ri, le⟩ := hS
 unfold setAddHashed setAddHashedIn
 refine wpAny_holding (wpAny_bind (wpAny_setState_of ho hd hf ?_))
 dsimp only
 rw [byScan_of hc hb hel, if_pos rfl]
 unfold setAddByScan
 refine wpAny_bind (wpAny_bind (wpAny_rule (wpAny_bind (wpAny_setScan_of hk ho hd hf hel ?_))))
 cases hi : List.findIdx? (fun e => (intKind prog w).is k e.2) es.toList with
 | some j =>
  dsimp only
  obtain ⟨hj, pj, _⟩ := List.findIdx?_eq_some_iff_getElem.mp hi
  have sk : S k = true := (hm k).mpr ⟨es.toList[j], List.getElem_mem hj, pj⟩
  refine wpAny_pure (wpAny_pure ?_)
  have q := h s.heap (Heap.SameBut.refl a s.heap) ⟨o, es, ep, t, ho, hx, hd, hel, fun j => by
   rw [Bool.or_eq_true, decide_eq_true_eq, ← hm j]
   exact ⟨fun z => z.elim id (fun e => e ▸ sk), .inl⟩, hb, hf, by rw [sk]; exact hn, ri, le⟩
  rw [sk] at q
  exact q
 | none =>
  dsimp only
  have sk : S k = false := by
   cases z : S k with
   | false => rfl
   | true =>
    obtain ⟨e, he, hp⟩ := (hm k).mp z
    have := List.findIdx?_eq_none_iff.mp hi e he
    rw [hp] at this; cases this
  have gw : ∀ (b : Bool) {z : Shared} {Y' : Unit → Shared → Prop}, Y' () z → wpAny (model prog w) A (match b with | true => rule "set.scan.the-table-gave-way" | false => pure ()) Y' E z := fun b z Y' q => by
   cases b
   ·exact wpAny_pure q
   ·exact wpAny_rule q
  have pm := layNew_perm t es ((intKind prog w).hash k) x
  have ft := layNew_fits t es ((intKind prog w).hash k) x
  obtain ⟨nr, nl⟩ := layNew_ris ri es ((intKind prog w).hash k) x
  generalize layNew t es ((intKind prog w).hash k) x = L at pm ft nr nl ⊢
  obtain ⟨fs, u, wd, gv⟩ := L
  dsimp only at pm ft nr nl ⊢
  rw [Array.toList_push] at pm
  have c1 : ElemsOf (intKind prog w) fs.toList := (hel.push hk hc).perm pm
  have c2 : ∀ j, (S j || decide (j = k)) = true ↔ ∃ e ∈ fs.toList, (intKind prog w).is j e.2 = true := mem_push_iff hk hm pm
  have ez : fs.size = n + 1 := by have := pm.length_eq; simp at this; lia
  have c3 : fs.size < scanBound := by rw [ez]; exact hr
  refine wpAny_bind (gw _ ?_)
  have fin : ∀ h', Heap.SameBut a s.heap h' → SetR prog w h' a (fun j => S j || decide (j = k)) fs.size led → Y true { s with heap := h' } := fun h' sb r => by
   have q := h h' sb
   rw [sk] at q; rw [ez] at r
   exact q r
  split
  ·refine wpAny_bind ?_
   rw [hashByValue_scannable 8 hc]
   refine wpAny_pure ?_
   refine add_tail (fun b z Y' q => ?_) ho hx hd c1 c2 c3 ?_ ?_ ?_ (led := led) (fun h' sb r => ?_)
   ·exact gw b q
   ·split
    ·exact ft
    ·exact SetTable.fits_plain_off ft
   ·split
    ·exact nr
    ·exact nr
   ·split
    ·exact nl.trans le
    ·exact nl.trans le
   ·exact wpAny_pure (fin h' sb r)
  ·refine wpAny_bind (wpAny_pure ?_)
   rw [if_pos rfl]
   refine add_tail (fun b z Y' q => ?_) ho hx hd c1 c2 c3 ft nr (nl.trans le) (fun h' sb r => ?_)
   ·exact gw b q
   ·exact wpAny_pure (fin h' sb r)
end
section
variable {prog : Program} {w : World} {A : Around} {R : Result → Shared → Prop} {I : Addr} {fp wr : List Addr} {G : Array GenState → Array GenState → Prop} {n : Nat} {P : Nat → Value → Prop} {St : Nat → Shared → Prop}
theorem upd_loop (W : WalksS prog w A.in1 I fp wr G n P St) (a : Addr) (ha : a ∉ fp) (f : Nat → Int) (hf : ∀ i v, P i v → ∃ t, v = .int (f i) t) (hb : n + 1 < scanBound) (led : Bool) :
  ∀ (m i : Nat) (s : Shared), n - i = m → i ≤ n → St i s → SetR prog w s.heap a (fun k => (firstMet f i).any (· == k)) (firstMet f i).length led →
   (∀ z, Moved (a :: wr) G s z → SetR prog w z.heap a (fun k => (firstMet f n).any (· == k)) (firstMet f n).length led → R (.ok (.ret .none)) z) →
   codeAny (model prog w) A (.builtin "set.update.loop" ⟨[.ref a, .ref I], []⟩) R s := by
 have hw : a ∉ wr := fun q => ha (W.sub _ q)
 have sub : ∀ b ∈ wr, b ∈ a :: wr := fun b q => List.mem_cons_of_mem _ q
 intro m
 induction m with
 | zero =>
  intro i s hm hi st hS hR
  have e : i = n := by lia
  subst e
  refine codeAny_builtin F.entry_set_update_loop ?_
  rw [Around.under_plainId F.plain_set_update_loop]
  show wpAny _ A.in1 (pyNext (.ref I) >>= _) _ _ s
  refine wpAny_bind (W.done s _ _ st fun z mv => ?_)
  exact wpAny_pure (hR z (mv.mono sub) (hS.at fun o q => mv.heap a o hw q))
 | succ m ih =>
  intro i s hm hi st hS hR
  have lt : i < n := by lia
  refine codeAny_builtin F.entry_set_update_loop ?_
  rw [Around.under_plainId F.plain_set_update_loop]
  show wpAny _ A.in1 (pyNext (.ref I) >>= _) _ _ s
  refine wpAny_bind (W.item i s _ _ lt st fun v z pv st1 mv => ?_)
  obtain ⟨t, rfl⟩ := hf i v pv
  have hS1 := hS.at (h' := z.heap) fun o q => mv.heap a o hw q
  show wpAny _ A.in1 (holding [Value.int (f i) t] (setAdd a (.int (f i) t)) >>= _) _ _ z
  refine wpAny_bind (wpAny_holding ?_)
  unfold setAdd
  refine wpAny_holding (wpAny_bind ((intKind prog w).pyHash (k := f i) (intKind_is _ _ _ _) ?_))
  have room : (firstMet f i).length + 1 < scanBound := by have := firstMet_length_le f i; lia
  refine add_R (s := { z with toks := z.toks + 1 }) (intKind_is _ _ _ _) rfl hS1 room fun h' sb r2 => ?_
  have r3 := r2.congr (S' := fun k => (firstMet f (i + 1)).any (· == k)) (n' := (firstMet f (i + 1)).length) (fun k => by rw [firstMet_succ, step_any]) (by rw [firstMet_succ, step_length])
  refine wpAny_pure ⟨plainId_quiet F.plain_set_update_loop _, ih (i + 1) _ (by lia) lt (W.frame _ z _ _ st1 (Nat.le_succ _) fun b hb' o q => ?_) r3 fun y mv2 r4 => ?_⟩
  ·rw [sb.2 b (fun e : b = a => ha (by rw [← e]; exact hb'))]; exact q
  ·refine hR y (Moved.trans W.gtrans ((mv.mono sub).then_heap (Nat.le_succ _) fun b o hb' q => ?_) mv2) r4
   rw [sb.2 b (fun e : b = a => hb' (by rw [e]; exact List.mem_cons_self))]; exact q
end
end Fw.Set
namespace Fw.Set
open PySem PyProof.Rows
section
variable {prog : Program} {w : World} {A : Around} {E : Value → Shared → Prop} {s : Shared}
noncomputable abbrev noSet (led : Bool) : Obj := { cls := .type "set", dict := none, data := .set #[] 0 (.fresh 0 0 led) }
noncomputable abbrev ledOf (w : World) : Bool := !w.params.followText "set-order"
theorem new_set (v : Value) {Y : Value → Shared → Prop} (h : Y (.ref s.heap.objs.size) { s with heap := s.heap.push (noSet (ledOf w)) }) :
  codeAny (model prog w) A (.call (.builtin "set.__new__") ⟨[.type "set", v], []⟩) (wants Y E) s := by
 refine codeAny_of_tree ?_
 show wpAny _ A.in1 (checkBuiltinCall "set.__new__" ⟨[.type "set", v], []⟩ >>= fun _ => again (.builtin "set.__new__" ⟨[.type "set", v], []⟩)) _ _ s
 refine wpAny_bind (wpAny_of_eq (F.newCall_set_1 v) (wpAny_pure ⟨plainId_quiet F.plain_set_new _, ?_⟩))
 refine codeAny_builtin F.entry_set_new ?_
 rw [Around.under_plainId F.plain_set_new]
 unfold Builtin.«set.__new__» Builtin.Frozenset.newClass
 have e := sub_set_self
 obtain ⟨hp, gn, dr, tk, os⟩ := s
 dsimp only at h ⊢
 wp_walk
 refine wpAny_askSetting (wpAny_pure ?_)
 dsimp only [newObj]
 exact wpAny_bind (wpAny_alloc (wpAny_pure (wpAny_pure h)))
theorem setR_new {h : Heap} {led : Bool} {a : Addr} (e : h.get? a = some (noSet led)) : SetR prog w h a (fun _ => false) 0 led :=
 ⟨_, #[], 0, _, e, ⟨rfl, rfl, rfl⟩, rfl, fun e he => by simp at he, fun k => by simp, by decide, rfl, rfl, fun i k d _ hk => absurd hk (Nat.not_lt_zero _), rfl⟩
set_option maxHeartbeats 3200000 in
theorem call_set {l : Addr} {its : Array Value} {ns : List Int} {Y : Value → Shared → Prop} (hh : A.handled = none) (hl : s.heap.IsList l its) (hi : IntsAre its.toList ns) (hb : its.size + 1 < scanBound)
  (h : ∀ (h' : Heap) (tk : Nat), SetR prog w h' s.heap.objs.size (fun k => (firstMet (fun i => ns.getD i 0) its.size).any (· == k)) (firstMet (fun i => ns.getD i 0) its.size).length (ledOf w) →
   (∀ b o, b < s.heap.objs.size → s.heap.get? b = some o → h'.get? b = some o) → Y (.ref s.heap.objs.size) { s with heap := h', toks := tk }) :
  wpAny (model prog w) A (call (.type "set") [.ref l]) Y E s := by
 obtain ⟨c, tl, hmro⟩ := F.called_set.mro
 have k1 := F.called_set.made
 have k2 := F.called_set.sub
 refine wpAny_call (codeAny_of_tree ?_)
 show wpAny _ _ (callAny (.type "set") _) _ _ _
 refine wpAny_pure ⟨Code.quiet_builtin _ (by decide +kernel), codeAny_builtin F.entry_type_call ?_⟩
 rw [Around.under_plain (weight_type_call_type "set" [.ref l] []) rfl]
 have k3 := F.called_set.notType
 have k4 := F.called_set.canCreate
 have k5 := F.typeCall_set_1 (.ref l)
 repeat (any_goals (first | assumption | wp_step))
 refine codeAny_mono (new_set (.ref l) (E := E) (Y := fun ob z => ob = .ref s.heap.objs.size ∧ z = { s with heap := s.heap.push (noSet (ledOf w)) }) ⟨rfl, rfl⟩) fun r z hr => ?_
 cases r with
 | error e => exact hr
 | ok fl =>
  cases fl with
  | ret ob =>
   obtain ⟨rfl, rfl⟩ := hr
   generalize ledOf w = led at h ⊢
   have g0 : (s.heap.push (noSet led)).get? s.heap.objs.size = some (noSet led) := Heap.get?_push_size _ rfl
   have ty : Shared.TypeIs { s with heap := s.heap.push (noSet led) } (.ref s.heap.objs.size) "set" := ⟨_, g0, rfl⟩
   have k6 := F.called_set.init.lookup
   have k7 := F.called_set.init.bind (.ref s.heap.objs.size)
   repeat (any_goals (first | assumption | wp_step))
   refine codeAny_mono (codeAny_call_builtin (R := wants (fun r y => r = .none ∧ ∃ h' tk, y = { s with heap := h', toks := tk } ∧
     SetR prog w h' s.heap.objs.size (fun k => (firstMet (fun i => ns.getD i 0) its.size).any (· == k)) (firstMet (fun i => ns.getD i 0) its.size).length led ∧
     (∀ b o, b < s.heap.objs.size → s.heap.get? b = some o → h'.get? b = some o)) E) F.called_set.init.plain F.entry_set_init (check_set_init_1 ty ?_)) fun r2 y hr2 => ?_
   ·obtain ⟨ol, e1, e2, nl, e3⟩ := hl
    obtain ⟨ocls, odict, odata, oslots⟩ := ol
    simp only at e2 e3
    subst e2; subst e3
    have e4 : (s.heap.push (noSet led)).get? l = some { cls := .type "list", dict := odict, data := .seq its nl, slots := oslots } := Heap.get?_push_of_some _ e1
    have q1 := F.sub_list_set
    have q2 := F.sub_list_frozenset
    have q3 : (Value.type "list" == Value.type "dict") = false := by decide
    have l1 : (s.heap.push (noSet led)).IsList l its := ⟨_, e4, rfl, nl, rfl⟩
    unfold Builtin.«set.__init__» noKeywords Builtin.Frozenset.updateFrom
    generalize hp : pyIter = PI
    wp_walk
    subst hp
    refine wpAny_pyIter_list l1 (wpAny_bind (wpAny_runValue ?_))
    have lt : l < s.heap.objs.size := Heap.lt_size e1
    have h3 : A.in1.in1.in1.handled = none := by simp [hh]
    have ne : l ≠ (s.heap.push (noSet led)).objs.size := by
     rw [Heap.size_push]; exact Nat.ne_of_lt (Nat.lt_succ_of_lt lt)
    have nf : s.heap.objs.size ∉ [(s.heap.push (noSet led)).objs.size, l] := by
     rw [Heap.size_push]
     simp only [List.mem_cons, List.not_mem_nil, or_false, not_or]
     exact ⟨Nat.ne_of_lt (Nat.lt_succ_self _), Nat.ne_of_gt lt⟩
    have hv : ∀ (i : Nat) (v : Value), its[i]? = some v → ∃ t, v = .int ((fun i => ns.getD i 0) i) t := fun i v q => IntsAre.int_at hi i v (by rw [Array.getElem?_toList]; exact q)
    refine upd_loop ((Walks.list h3 _ l ne its).toS) s.heap.objs.size nf (fun i => ns.getD i 0) hv hb led (its.size - 0) 0 _ (by lia) (Nat.zero_le _) ⟨⟨_, Heap.get?_push_size _ rfl, rfl, rfl⟩, l1.push _⟩ ?_ ?_
    ·exact (setR_new (Heap.get?_push_of_some _ g0)).congr (fun _ => rfl) rfl
    ·intro y mv r
     obtain ⟨h', g', d', tk', os'⟩ := y
     have a1 : g' = s.gens := mv.gens
     have a2 : d' = s.drawn := mv.drawn
     have a3 : os' = s.os := mv.os
     subst a1; subst a2; subst a3
     show wpAny _ _ _ _ _ _
     refine wpAny_pure ?_
     show wpAny _ _ (ret Value.none) _ _ _
     refine wpAny_pure ⟨rfl, h', tk', rfl, r, fun b o lb q => ?_⟩
     refine mv.heap b o ?_ (Heap.get?_push_of_some _ (Heap.get?_push_of_some _ q))
     simp only [List.mem_cons, List.not_mem_nil, or_false, not_or]
     refine ⟨Nat.ne_of_lt lb, ?_⟩
     rw [Heap.size_push]; exact Nat.ne_of_lt (Nat.lt_succ_of_lt lb)
   ·cases r2 with
    | error e => exact hr2
    | ok f2 =>
     cases f2 with
     | ret r =>
      obtain ⟨rfl, h', tk, rfl, r1, r3⟩ := hr2
      repeat (any_goals (first | assumption | wp_step))
      exact h _ _ r1 r3
     | _ => exact hr2.elim
  | _ => exact hr.elim
end
end Fw.Set
namespace Fw.Set
open PySem PyProof.Rows
theorem e_iter : entryFor table "set.__iter__" = some Builtin.«frozenset.__iter__» := entryFor_alias (id' := "frozenset.__iter__") (by kernel_rfl) rfl (by decide +kernel) (by kernel_rfl)
theorem sl_next : Slot "set_iterator" "__next__" "set_iterator.__next__" := .of (owner := "set_iterator") (n := "__next__") (by rw [typeLookup_type, builtinLookup_eq_fast]; kernel_rfl) (by decide +kernel) (by decide +kernel) (by decide +kernel) (by first | exact .inl (by decide +kernel) | exact .inr (by decide +kernel)) (by rw [isSubtype_type]; kernel_rfl)
theorem e_next : entryFor table "set_iterator.__next__" = some Builtin.«set_iterator.__next__» := entryFor_of_tree (by kernel_rfl)
theorem ow_si : Manifest.owners.lookup (String.ofList ['r', 'o', 't', 'a', 'r', 'e', 't', 'i', '_', 't', 'e', 's'].reverse) = some Manifest.sig_set_iterator := by kernel_rfl
theorem a_next (a : Value) : argsOk "set_iterator.__next__" ⟨[a], []⟩ := by
 unfold argsOk
 rw [signature?_of (id := "set_iterator.__next__") (n := ['_', '_', 't', 'x', 'e', 'n', '_', '_']) (o := ['r', 'o', 't', 'a', 'r', 'e', 't', 'i', '_', 't', 'e', 's']) (by kernel_rfl) ow_si]; kernel_rfl
theorem erase_perm {α : Type} : ∀ {l : List α} {i : Nat} (h : i < l.length), (l[i] :: l.eraseIdx i).Perm l
 | x :: l, 0, h => .refl _
 | x :: l, i + 1, h => by
  have q := erase_perm (l := l) (i := i) (by simpa using h)
  rw [List.eraseIdx_cons_succ, List.getElem_cons_succ]
  exact (List.Perm.swap _ _ _).trans (q.cons x)
theorem pick_go {α : Type} (f : Nat → Nat) : ∀ (n k : Nat) (l : List α) (out : Array α), l.length = n → (pickOrder.go f n k l out).toList.Perm (out.toList ++ l)
 | 0, k, l, out, e => by
  cases l with
  | nil => simp [pickOrder.go]
  | cons x l => cases e
 | n + 1, k, l, out, e => by
  unfold pickOrder.go
  have hlt : f k % l.length < l.length := Nat.mod_lt _ (by lia)
  generalize f k % l.length = i at hlt
  rw [List.getElem?_eq_getElem hlt]
  dsimp only
  refine (pick_go f n (k + 1) (l.eraseIdx i) (out.push l[i]) (by rw [List.length_eraseIdx_of_lt hlt]; lia)).trans ?_
  rw [Array.toList_push, List.append_assoc]
  refine List.Perm.append_left _ ?_
  exact erase_perm hlt
theorem pick_perm {α : Type} (f : Nat → Nat) (xs : Array α) : (pickOrder f xs).toList.Perm xs.toList := by
 have := pick_go f xs.size 0 xs.toList #[] (by simp)
 simpa [pickOrder] using this
section
variable {prog : Program} {w : World} {A : Around} {E : Value → Shared → Prop} {s : Shared}
theorem wp_choose_ {src : Source} {n : Nat} {Q : Nat → Shared → Prop} (hn : n ≠ 0) (h : ∀ i d, i < n → Q i { s with drawn := d }) : wpAny (model prog w) A (choose src n) Q E s := fun _ _ _ => ⟨hn, h _ _ (Nat.mod_lt _ (Nat.pos_of_ne_zero hn))⟩
theorem draw_ok {α : Type} : ∀ (n : Nat) (xs : List α) (s : Shared) (Q : List α → Shared → Prop), xs.length = n → (∀ ys d, ys.Perm xs → Q ys { s with drawn := d }) → wpAny (model prog w) A (drawOrder n xs) Q E s
 | 0, xs, s, Q, e, h => by
  cases xs with
  | nil => unfold drawOrder; exact wpAny_pure (h [] s.drawn .nil)
  | cons x xs => cases e
 | n + 1, [], s, Q, e, h => by cases e
 | n + 1, x :: xs, s, Q, e, h => by
  unfold drawOrder
  refine wpAny_bind (wp_choose_ (by simp) fun i d hi => ?_)
  rw [List.getElem?_eq_getElem hi]
  dsimp only
  refine wpAny_bind (draw_ok n ((x :: xs).eraseIdx i) _ _ (by rw [List.length_eraseIdx_of_lt hi]; lia) fun ys d' p => wpAny_pure ?_)
  exact h _ d' ((List.Perm.cons _ p).trans (erase_perm hi))
end
end Fw.Set
namespace Fw.Set
open PySem PyProof.Rows
noncomputable abbrev siO (f : Value) (i : Nat) (a : Addr) (n ep : Nat) : Obj := { cls := .type "set_iterator", dict := none, data := .fields #[f, .int i 0, .ref a, .int n 0, .int ep 0], slots := #[] }
section
variable {prog : Program} {w : World} {A : Around} {E : Value → Shared → Prop} {s : Shared} {a it : Addr} {o : Obj} {es : Array (Int × Value)} {ep : Nat} {t : SetTable}
theorem byText_ok {Q : Bool → Shared → Prop} (h : Q (w.params.followText "set-order") s) : wpAny (model prog w) A setsByText Q E s := by
 unfold setsByText
 exact wpAny_bind (wpAny_askSetting (wpAny_pure h))
theorem walk_text {Q : Array (Int × Value) → Shared → Prop} (hb : w.params.followText "set-order" = true) (ho : s.heap.get? a = some o) (hd : o.data = .set es ep t) (hf : t.fits es.size = true) (h : Q (pickOrder (w.params.setOrder a ep) es) s) :
  wpAny (model prog w) A (setWalk a) Q E s := by
 unfold setWalk
 refine wpAny_bind (wpAny_setState_of ho hd hf ?_)
 dsimp only
 refine wpAny_bind (byText_ok ?_)
 rw [hb, if_pos rfl]
 exact wpAny_bind (wpAny_askSetting (wpAny_pure h))
theorem sn_text {sl i : Nat} {Q : Option (Value × Nat) → Shared → Prop} (hb : w.params.followText "set-order" = true) (ho : s.heap.get? a = some o) (hd : o.data = .set es ep t) (hf : t.fits es.size = true)
  (h : Q (((pickOrder (w.params.setOrder a ep) es)[i]?).map fun e => (e.2, sl)) s) : wpAny (model prog w) A (setNext a sl i ep) Q E s := by
 unfold setNext
 refine wpAny_bind (wpAny_setState_of ho hd hf ?_)
 dsimp only
 refine wpAny_bind (byText_ok ?_)
 rw [hb, if_pos rfl, if_neg (by simp)]
 exact wpAny_bind (walk_text hb ho hd hf (wpAny_pure h))
theorem sn_place {sl i : Nat} {Q : Option (Value × Nat) → Shared → Prop} (hb : w.params.followText "set-order" = false) (ho : s.heap.get? a = some o) (hd : o.data = .set es ep t) (hf : t.fits es.size = true) (hl : t.led = true) (hp : (!t.plain && decide (es.size > 1)) = false)
  (h : Q (match es[SetTable.below t.place sl]?, t.place[SetTable.below t.place sl]? with | some (_, x), some j => some (x, j + 1) | _, _ => none) s) : wpAny (model prog w) A (setNext a sl i ep) Q E s := by
 unfold setNext
 refine wpAny_bind (wpAny_setState_of ho hd hf ?_)
 dsimp only
 refine wpAny_bind (byText_ok ?_)
 rw [hb, if_neg Bool.false_ne_true]
 refine wpAny_ite_split (fun q => absurd (show (!t.plain && decide (es.size > 1)) = true from q) (by rw [hp]; exact Bool.false_ne_true)) (fun _ => ?_)
 refine wpAny_bind (m := if (!t.led && !es.isEmpty) = true then unsupported "set:maker-not-led" else pure ()) ?_
 rw [hl]
 exact wpAny_pure (wpAny_pure h)
theorem next_slot {sl i j : Nat} {x : Value} {Q : Option Value → Shared → Prop} (hit : s.heap.get? it = some (siO (.int sl 0) i a es.size ep)) (ho : s.heap.get? a = some o) (hd : o.data = .set es ep t) (hf : t.fits es.size = true)
  (hx : ∀ (B : Around) (F : Value → Shared → Prop) (Y : Option (Value × Nat) → Shared → Prop), Y (some (x, j)) s → wpAny (model prog w) B (setNext a sl i ep) Y F s)
  (h : ∀ h', h'.get? it = some (siO (.int j 0) (i + 1) a es.size ep) → Heap.SameBut it s.heap h' → Q (some x) { s with heap := h' }) : wpAny (model prog w) A (pyNext (.ref it)) Q E s := by
 have ty : s.TypeIs (.ref it) "set_iterator" := ⟨_, hit, rfl⟩
 unfold pyNext
 refine wpAny_bind (wpAny_attempt (wpAny_callSpecial?_slot (name := Str.ofString "__next__") ty sl_next (wpAny_call_entry sl_next ty e_next ?_ (a_next _))))
 unfold Builtin.«set_iterator.__next__»
 refine wpAny_bind (m := slotArgs "__next__" 0 _) (wpAny_pure ?_)
 refine wpAny_bind (wpAny_fieldsOf hit rfl ?_)
 show wpAny _ _ (setEntries a >>= _) _ _ s
 refine wpAny_bind (wpAny_setEntries_of ho hd hf ?_)
 rw [if_neg (by simp)]
 show wpAny _ _ (setNext a (Int.toNat sl) (Int.toNat i) (Int.toNat ep) >>= _) _ _ s
 rw [Int.toNat_natCast, Int.toNat_natCast, Int.toNat_natCast]
 refine wpAny_bind (hx _ _ _ ?_)
 dsimp only
 refine wpAny_bind (wpAny_setField_rec hit (by simp) fun h1 g1 b1 => ?_)
 refine wpAny_bind (wpAny_setField_rec (s := { s with heap := h1 }) g1 (by simp) fun h2 g2 b2 => ?_)
 exact wpAny_pure ⟨x, rfl, wpAny_pure (h h2 g2 (b1.trans b2))⟩
end
end Fw.Set
namespace Fw.Set
open PySem PyProof.Rows
section
variable {prog : Program} {w : World} {A : Around} {E : Value → Shared → Prop} {s : Shared} {a it : Addr} {o : Obj} {es : Array (Int × Value)} {ep : Nat} {t : SetTable}
theorem next_end {f : Value} {sl i : Nat} {Q : Option Value → Shared → Prop} (hh : A.handled = none) (hit : s.heap.get? it = some (siO (.int sl 0) i a es.size ep)) (ho : s.heap.get? a = some o) (hd : o.data = .set es ep t) (hf : t.fits es.size = true)
  (hx : ∀ (B : Around) (F : Value → Shared → Prop) (Y : Option (Value × Nat) → Shared → Prop), Y none s → wpAny (model prog w) B (setNext a sl i ep) Y F s)
  (h : ∀ h', Heap.ExtBut it s.heap h' → Q none { s with heap := h' }) : wpAny (model prog w) A (pyNext (.ref it)) Q E s := by
 have ty : s.TypeIs (.ref it) "set_iterator" := ⟨_, hit, rfl⟩
 unfold pyNext
 refine wpAny_bind (wpAny_attempt (wpAny_callSpecial?_slot (name := Str.ofString "__next__") ty sl_next (wpAny_call_entry sl_next ty e_next ?_ (a_next _))))
 unfold Builtin.«set_iterator.__next__»
 refine wpAny_bind (m := slotArgs "__next__" 0 _) (wpAny_pure ?_)
 refine wpAny_bind (wpAny_fieldsOf hit rfl ?_)
 show wpAny _ _ (setEntries a >>= _) _ _ s
 refine wpAny_bind (wpAny_setEntries_of ho hd hf ?_)
 rw [if_neg (by simp)]
 show wpAny _ _ (setNext a (Int.toNat sl) (Int.toNat i) (Int.toNat ep) >>= _) _ _ s
 rw [Int.toNat_natCast, Int.toNat_natCast, Int.toNat_natCast]
 refine wpAny_bind (hx _ _ _ ?_)
 dsimp only
 refine wpAny_bind (wpAny_setField_rec hit (by simp) fun h1 g1 b1 => ?_)
 refine wpAny_bind ?_
 simp only [newExc, newTuple]
 refine wpAny_bind (wpAny_newObj_type (wpAny_bind (m := firstArgMember _ _) (wpAny_of_eq (a := Value.none) (by first | rfl | (simp only [firstArgMember]; rfl)) (wpAny_newObj_type ?_ (by size_fits)))) (by size_fits))
 simp only [raiseNew]
 refine wpAny_bind (wpAny_handled ?_)
 rw [show A.in1.handled = none from hh]
 refine wpAny_bind (wpAny_pure (wpAny_throw ?_))
 refine wpAny_bind (wpAny_isInstance (T := "StopIteration") (b := true) ⟨_, Heap.get?_push_size _ rfl, rfl⟩ isSubtype_stop (wpAny_pure (h _ ?_)))
 exact (b1.extBut.push _).push _
theorem next_tup {tu : Addr} {ps : Array Value} {c i p : Nat} {z : Int} {x : Value} {Q : Option Value → Shared → Prop} (hit : s.heap.get? it = some (siO (.ref tu) i a es.size ep)) (ho : s.heap.get? a = some o) (hd : o.data = .set es ep t) (hf : t.fits es.size = true)
  (htu : s.heap.get? tu = some { cls := .type "tuple", dict := none, data := .seq ps c, slots := #[] }) (hp : ps[i]? = some (.int p 0)) (hx : es[p]? = some (z, x))
  (h : ∀ h', h'.get? it = some (siO (.ref tu) (i + 1) a es.size ep) → Heap.SameBut it s.heap h' → Q (some x) { s with heap := h' }) : wpAny (model prog w) A (pyNext (.ref it)) Q E s := by
 have ty : s.TypeIs (.ref it) "set_iterator" := ⟨_, hit, rfl⟩
 unfold pyNext
 refine wpAny_bind (wpAny_attempt (wpAny_callSpecial?_slot (name := Str.ofString "__next__") ty sl_next (wpAny_call_entry sl_next ty e_next ?_ (a_next _))))
 unfold Builtin.«set_iterator.__next__»
 refine wpAny_bind (m := slotArgs "__next__" 0 _) (wpAny_pure ?_)
 refine wpAny_bind (wpAny_fieldsOf hit rfl ?_)
 show wpAny _ _ (setEntries a >>= _) _ _ s
 refine wpAny_bind (wpAny_setEntries_of ho hd hf ?_)
 rw [if_neg (by simp)]
 show wpAny _ _ (seqItems? (.ref tu) >>= _) _ _ s
 refine wpAny_bind (wpAny_seqItems htu rfl ?_)
 dsimp only
 rw [Int.toNat_natCast, hp]
 dsimp only
 refine wpAny_bind ?_
 unfold setNextDrawn
 refine wpAny_bind (wpAny_setState_of ho hd hf ?_)
 dsimp only
 rw [Int.toNat_natCast, if_neg (by simp), Int.toNat_natCast, hx]
 refine wpAny_pure (wpAny_bind (wpAny_setField_rec hit (by simp) fun h1 g1 b1 => ?_))
 exact wpAny_pure ⟨x, rfl, wpAny_pure (h h1 g1 b1)⟩
theorem next_tupE {tu : Addr} {ps : Array Value} {c i : Nat} {Q : Option Value → Shared → Prop} (hh : A.handled = none) (hit : s.heap.get? it = some (siO (.ref tu) i a es.size ep)) (ho : s.heap.get? a = some o) (hd : o.data = .set es ep t) (hf : t.fits es.size = true)
  (htu : s.heap.get? tu = some { cls := .type "tuple", dict := none, data := .seq ps c, slots := #[] }) (hp : ps[i]? = none)
  (h : ∀ h', Heap.ExtBut it s.heap h' → Q none { s with heap := h' }) : wpAny (model prog w) A (pyNext (.ref it)) Q E s := by
 have ty : s.TypeIs (.ref it) "set_iterator" := ⟨_, hit, rfl⟩
 unfold pyNext
 refine wpAny_bind (wpAny_attempt (wpAny_callSpecial?_slot (name := Str.ofString "__next__") ty sl_next (wpAny_call_entry sl_next ty e_next ?_ (a_next _))))
 unfold Builtin.«set_iterator.__next__»
 refine wpAny_bind (m := slotArgs "__next__" 0 _) (wpAny_pure ?_)
 refine wpAny_bind (wpAny_fieldsOf hit rfl ?_)
 show wpAny _ _ (setEntries a >>= _) _ _ s
 refine wpAny_bind (wpAny_setEntries_of ho hd hf ?_)
 rw [if_neg (by simp)]
 show wpAny _ _ (seqItems? (.ref tu) >>= _) _ _ s
 refine wpAny_bind (wpAny_seqItems htu rfl ?_)
 dsimp only
 rw [Int.toNat_natCast, hp]
 dsimp only
 refine wpAny_bind (wpAny_setField_rec hit (by simp) fun h1 g1 b1 => ?_)
 refine wpAny_bind (wpAny_setField_rec (s := { s with heap := h1 }) g1 (by simp) fun h2 g2 b2 => ?_)
 refine wpAny_bind ?_
 simp only [newExc, newTuple]
 refine wpAny_bind (wpAny_newObj_type (wpAny_bind (m := firstArgMember _ _) (wpAny_of_eq (a := Value.none) (by first | rfl | (simp only [firstArgMember]; rfl)) (wpAny_newObj_type ?_ (by size_fits)))) (by size_fits))
 simp only [raiseNew]
 refine wpAny_bind (wpAny_handled ?_)
 rw [show A.in1.handled = none from hh]
 refine wpAny_bind (wpAny_pure (wpAny_throw ?_))
 refine wpAny_bind (wpAny_isInstance (T := "StopIteration") (b := true) ⟨_, Heap.get?_push_size _ rfl, rfl⟩ isSubtype_stop (wpAny_pure (h _ ?_)))
 exact ((b1.trans b2).extBut.push _).push _
end
end Fw.Set
namespace Fw.Set
open PySem PyProof.Rows
theorem sl_self : Slot "set_iterator" "__iter__" "set_iterator.__iter__" := .of (owner := "set_iterator") (n := "__iter__") (by rw [typeLookup_type, builtinLookup_eq_fast]; kernel_rfl) (by decide +kernel) (by decide +kernel) (by decide +kernel) (by first | exact .inl (by decide +kernel) | exact .inr (by decide +kernel)) (by rw [isSubtype_type]; kernel_rfl)
theorem e_self : entryFor table "set_iterator.__iter__" = some Builtin.«dict_keyiterator.__iter__» := entryFor_alias (id' := "dict_keyiterator.__iter__") (by kernel_rfl) rfl (by decide +kernel) (by kernel_rfl)
theorem a_self (a : Value) : argsOk "set_iterator.__iter__" ⟨[a], []⟩ := by
 unfold argsOk
 rw [signature?_of (id := "set_iterator.__iter__") (n := ['_', '_', 'r', 'e', 't', 'i', '_', '_']) (o := ['r', 'o', 't', 'a', 'r', 'e', 't', 'i', '_', 't', 'e', 's']) (by kernel_rfl) ow_si]; kernel_rfl
section
variable {prog : Program} {w : World} {A : Around} {E : Value → Shared → Prop} {s : Shared} {a it : Addr} {o : Obj} {es : Array (Int × Value)} {ep : Nat} {t : SetTable}
theorem self_ok {f : Value} {i n ep : Nat} {Q : Value → Shared → Prop} (hit : s.heap.get? it = some (siO f i a n ep)) (h : Q (.ref it) s) : wpAny (model prog w) A (pyIter (.ref it)) Q E s := by
 have ty : s.TypeIs (.ref it) "set_iterator" := ⟨_, hit, rfl⟩
 refine wpAny_pyIter_slot ty sl_self (wpAny_call_entry sl_self ty e_self ?_ (a_self _))
 show wpAny _ _ (ret (.ref it)) _ _ s
 exact wpAny_pure ⟨_, rfl, "set_iterator", _, ty, sl_next.lookup, h⟩
theorem walksA (hh : A.handled = none) (I : Addr) (hne : a ≠ I) (hd : o.data = .set es ep t) (hf : t.fits es.size = true) (sl : Nat → Nat) (vs : Array Value) (hsz : vs.size = es.size)
  (hx : ∀ (i : Nat) (s : Shared) (B : Around) (F : Value → Shared → Prop) (Y : Option (Value × Nat) → Shared → Prop), i ≤ vs.size → s.heap.get? a = some o → Y (vs[i]?.map fun x => (x, sl (i + 1))) s → wpAny (model prog w) B (setNext a (sl i) i ep) Y F s) :
  Walks prog w A I [I, a] [I] vs.size (fun i v => vs[i]? = some v) (fun i h => h.get? I = some (siO (.int (sl i) 0) i a es.size ep) ∧ h.get? a = some o) where
 sub := fun b hb => by simp at hb; simp [hb]
 frame := fun _ _ _ st hk => ⟨hk I (by simp) _ st.1, hk a (by simp) _ st.2⟩
 item := fun i s Q E hi st hQ => next_slot (x := vs[i]) (j := sl (i + 1)) st.1 st.2 hd hf (fun B F Y y => hx i s B F Y (Nat.le_of_lt hi) st.2 (by rw [Array.getElem?_eq_getElem hi]; exact y)) fun h' g b => hQ _ h' s.toks (Array.getElem?_eq_getElem hi) ⟨g, by rw [b.2 a hne]; exact st.2⟩ fun c q hc e => by
  rw [b.2 c (fun z => hc (by simp [z]))]; exact e
 done := fun s Q E st hQ => next_end (f := .none) hh st.1 st.2 hd hf (fun B F Y y => hx vs.size s B F Y (Nat.le_refl _) st.2 (by rw [Array.getElem?_eq_none (Nat.le_refl _)]; exact y)) fun h' b => hQ h' s.toks fun c q hc e => b c q (fun z => hc (by simp [z])) e
 self := fun i s Q E st hQ => self_ok st.1 hQ
theorem walksB (hh : A.handled = none) (I tu : Addr) (hne : a ≠ I) (hne2 : tu ≠ I) (hd : o.data = .set es ep t) (hf : t.fits es.size = true) (ps : List Nat) (vs : Array Value) (hsz : vs.size = ps.length)
  (hx : ∀ i (hi : i < ps.length), ∃ z x, es[ps[i]]? = some (z, x) ∧ vs[i]? = some x) :
  Walks prog w A I [I, a, tu] [I] vs.size (fun i v => vs[i]? = some v) (fun i h => h.get? I = some (siO (.ref tu) i a es.size ep) ∧ h.get? a = some o ∧ h.get? tu = some { cls := .type "tuple", dict := none, data := .seq (ps.map fun i => Value.int (i : Nat) 0).toArray 0, slots := #[] }) where
 sub := fun b hb => by simp at hb; simp [hb]
 frame := fun _ _ _ st hk => ⟨hk I (by simp) _ st.1, hk a (by simp) _ st.2.1, hk tu (by simp) _ st.2.2⟩
 item := fun i s Q E hi st hQ => by
  have hi2 : i < ps.length := by lia
  obtain ⟨z, x, q1, q2⟩ := hx i hi2
  exact next_tup st.1 st.2.1 hd hf st.2.2 (p := ps[i]) (by simp [hi2]) q1 fun h' g b => hQ _ h' s.toks q2 ⟨g, by rw [b.2 a hne]; exact st.2.1, by rw [b.2 tu hne2]; exact st.2.2⟩ fun c q hc e => by
   rw [b.2 c (fun z => hc (by simp [z]))]; exact e
 done := fun s Q E st hQ => next_tupE hh st.1 st.2.1 hd hf st.2.2 (by simp [hsz]) fun h' b => hQ h' s.toks fun c q hc e => b c q (fun z => hc (by simp [z])) e
 self := fun i s Q E st hQ => self_ok st.1 hQ
end
end Fw.Set
namespace Fw.Set
open PySem PyProof.Rows
section
variable {prog : Program} {w : World} {A : Around} {E : Value → Shared → Prop} {s : Shared} {a it : Addr} {o : Obj} {es : Array (Int × Value)} {ep : Nat} {t : SetTable}
theorem drawn_ok {Q : Bool → Shared → Prop} (ho : s.heap.get? a = some o) (hd : o.data = .set es ep t) (hf : t.fits es.size = true) (h : Q (!w.params.followText "set-order" && (!t.plain && decide (es.size > 1))) s) : wpAny (model prog w) A (setDrawn a) Q E s := by
 unfold setDrawn
 refine wpAny_bind (wpAny_setState_of ho hd hf ?_)
 dsimp only
 exact wpAny_bind (byText_ok (wpAny_pure h))
noncomputable def slotsOf (t : SetTable) : Nat → Nat
 | 0 => 0
 | i + 1 => t.place.getD i 0 + 1
theorem slots_below {t : SetTable} (hr : Ris t.place) : ∀ {i : Nat}, i ≤ t.place.size → SetTable.below t.place (slotsOf t i) = i
 | 0, _ => below_zero hr
 | i + 1, h => by
  show SetTable.below t.place (t.place.getD i 0 + 1) = i + 1
  rw [getD_of (by lia) 0]
  exact below_next hr (by lia)
theorem fits_size {t : SetTable} {n : Nat} (h : t.fits n = true) : t.place.size = n := by
 simp only [SetTable.fits, Bool.and_eq_true, beq_iff_eq] at h
 exact h.1
theorem iter_set (hh : A.handled = none) (ho : s.heap.get? a = some o) (hc : o.cls = .type "set") (hd : o.data = .set es ep t) (hf : t.fits es.size = true) (hr : Ris t.place) (hl : t.led = ledOf w) (hz : es.size ≤ sizeLine) {Q : Value → Shared → Prop}
  (hQ : ∀ (z : Shared) (I : Addr) (fp : List Addr) (vs : Array Value) (St : Nat → Heap → Prop), (∀ b o, s.heap.get? b = some o → z.heap.get? b = some o) → z.gens = s.gens → z.os = s.os → s.heap.objs.size ≤ I → Walks prog w A I fp [I] vs.size (fun i v => vs[i]? = some v) St →
   (∀ b ∈ fp, b = a ∨ s.heap.objs.size ≤ b) → St 0 z.heap → vs.toList.Perm (es.toList.map (·.2)) → Q (.ref I) z) : wpAny (model prog w) A (pyIter (.ref a)) Q E s := by
 have ty : s.TypeIs (.ref a) "set" := ⟨_, ho, hc⟩
 have lt := Heap.lt_size ho
 refine wpAny_pyIter_slot ty F.slot_set_iter (wpAny_call_entry F.slot_set_iter ty e_iter ?_ (F.args_set_iter_1 _))
 unfold Builtin.«frozenset.__iter__»
 refine wpAny_bind (m := Builtin.Frozenset.slot0 "__iter__" _) (wpAny_pure ?_)
 refine wpAny_bind ?_
 unfold Builtin.Frozenset.sizeOf
 refine wpAny_bind (wpAny_setEntries_of ho hd hf (wpAny_pure ?_))
 refine wpAny_bind (drawn_ok ho hd hf ?_)
 refine wpAny_ite_split (fun q => ?_) (fun q => ?_)
 ·refine wpAny_bind (draw_ok es.size (List.range es.size) _ _ (by simp) fun ys d p => ?_)
  have hp : ∀ i ∈ ys, i < es.size := fun i hi => List.mem_range.mp (p.mem_iff.mp hi)
  have hlen : ys.length = es.size := by rw [p.length_eq, List.length_range]
  refine wpAny_bind (wpAny_newTuple ?_ (by rw [List.length_map, hlen]; exact hz))
  refine wpAny_bind (wpAny_setEpoch_of (s := { s with drawn := d, heap := _ }) (Heap.get?_push_of_some _ ho) hd hf ?_)
  refine wpAny_bind (wpAny_newObj_type (wpAny_pure ⟨_, rfl, "set_iterator", _, ⟨_, Heap.get?_push_size _ rfl, rfl⟩, sl_next.lookup, ?_⟩))
  generalize ht : ({ cls := .type "tuple", dict := none, data := .seq (ys.map fun (i : Nat) => rawInt i).toArray } : Obj) = T
  have g1 : (s.heap.push T).objs.size = s.heap.objs.size + 1 := Heap.size_push ..
  refine hQ _ _ [(s.heap.push T).objs.size, a, s.heap.objs.size] (ys.map fun i => (es.getD i (0, .none)).2).toArray _ (fun b o e => Heap.get?_push_of_some _ (Heap.get?_push_of_some _ e)) rfl rfl (by rw [g1]; lia)
   (walksB (ep := ep) (t := t) (o := o) (a := a) hh _ s.heap.objs.size (by rw [g1]; lia) (by rw [g1]; lia) hd hf ys _ (by simp) fun i hi => ?_) (fun b hb => ?_) ⟨Heap.get?_push_size _ rfl, Heap.get?_push_of_some _ (Heap.get?_push_of_some _ ho), Heap.get?_push_of_some _ ?_⟩ ?_
  ·have hq := hp _ (List.getElem_mem hi)
   refine ⟨es[ys[i]].1, es[ys[i]].2, Array.getElem?_eq_getElem hq, ?_⟩
   simp [hi, hq, Array.getD]
  ·simp only [List.mem_cons, List.not_mem_nil, or_false] at hb
   rcases hb with rfl | rfl | rfl
   ·rw [g1]; right; lia
   ·left; rfl
   ·right; exact Nat.le_refl _
  ·subst ht
   exact Heap.get?_push_size _ rfl
  ·refine (p.map _).trans ?_
   rw [show (fun i => (es.getD i (0, Value.none)).2) = (fun e : Int × Value => e.2) ∘ (fun i => es.getD i (0, .none)) from rfl, ← List.map_map]
   rw [show (List.range es.size).map (fun i => es.getD i (0, Value.none)) = es.toList from ?_]
   apply List.ext_getElem
   ·simp
   ·intro i h1 h2
    have : i < es.size := by simpa using h1
    simp [Array.getD, this]
 ·have qf : (!w.params.followText "set-order" && (!t.plain && decide (es.size > 1))) = false := by
   cases z : (!w.params.followText "set-order" && (!t.plain && decide (es.size > 1))) with
   | false => rfl
   | true => exact absurd z q
  refine wpAny_bind (wpAny_pure ?_)
  refine wpAny_bind (wpAny_setEpoch_of ho hd hf ?_)
  refine wpAny_bind (wpAny_newObj_type (wpAny_pure ⟨_, rfl, "set_iterator", _, ⟨_, Heap.get?_push_size _ rfl, rfl⟩, sl_next.lookup, ?_⟩))
  cases hb : w.params.followText "set-order" with
  | true =>
   have pz : (pickOrder (w.params.setOrder a ep) es).size = es.size := by simpa using (pick_perm (w.params.setOrder a ep) es).length_eq
   refine hQ _ _ [s.heap.objs.size, a] ((pickOrder (w.params.setOrder a ep) es).map (·.2)) _ (fun b o e => Heap.get?_push_of_some _ e) rfl rfl (Nat.le_refl _)
    (walksA (ep := ep) (t := t) (o := o) (a := a) hh _ (Nat.ne_of_lt lt) hd hf (fun _ => 0) _ (by rw [Array.size_map]; exact pz) fun i z B F Y _ hz y => ?_) (fun b hb => ?_) ⟨Heap.get?_push_size _ rfl, Heap.get?_push_of_some _ ho⟩ ?_
   ·refine sn_text hb hz hd hf ?_
    rw [Array.getElem?_map, Option.map_map] at y
    exact y
   ·simp only [List.mem_cons, List.not_mem_nil, or_false] at hb
    rcases hb with rfl | rfl
    ·right; exact Nat.le_refl _
    ·left; rfl
   ·rw [Array.toList_map]
    exact (pick_perm _ es).map _
  | false =>
   rw [hb] at qf
   have le : t.led = true := by rw [hl]; unfold ledOf; rw [hb]; rfl
   have pz := fits_size hf
   refine hQ _ _ [s.heap.objs.size, a] (es.map (·.2)) _ (fun b o e => Heap.get?_push_of_some _ e) rfl rfl (Nat.le_refl _)
    (walksA (ep := ep) (t := t) (o := o) (a := a) hh _ (Nat.ne_of_lt lt) hd hf (slotsOf t) _ (by rw [Array.size_map]) fun i z B F Y hi hz y => ?_) (fun b hb => ?_) ⟨Heap.get?_push_size _ rfl, Heap.get?_push_of_some _ ho⟩ (by rw [Array.toList_map])
   ·rw [Array.size_map] at hi
    refine sn_place hb hz hd hf le qf ?_
    rw [slots_below hr (by lia)]
    by_cases hlt : i < es.size
    ·have e1 : es[i]? = some es[i] := Array.getElem?_eq_getElem hlt
     have e2 : t.place[i]? = some (t.place.getD i 0) := by rw [getD_of (by lia)]; exact Array.getElem?_eq_getElem (by lia)
     rw [Array.getElem?_map, e1] at y
     rw [e1, e2]
     exact y
    ·have e1 : es[i]? = none := Array.getElem?_eq_none (by lia)
     rw [Array.getElem?_map, e1] at y
     rw [e1]
     exact y
   ·simp only [List.mem_cons, List.not_mem_nil, or_false] at hb
    rcases hb with rfl | rfl
    ·right; exact Nat.le_refl _
    ·left; rfl
end
end Fw.Set
namespace Fw.Set
open PySem PyProof.Rows
section
variable {prog : Program} {w : World} {A : Around} {E : Value → Shared → Prop} {s : Shared} {a it : Addr} {o : Obj} {es : Array (Int × Value)} {ep : Nat} {t : SetTable}
theorem hint_set {Q : Bool → Shared → Prop} (ty : s.TypeIs (.ref a) "set") (h : Q false s) : wpAny (model prog w) A (Builtin.List.listLengthHint (.ref a)) Q E s := by
 unfold Builtin.List.listLengthHint
 refine wpAny_bind (wpAny_specialOf ty F.slot_set_len.lookup ?_)
 generalize hid : ("set.__len__" : String) = id0
 wp_delta
 rw [show splitId id0 = some ("set", "__len__") from by subst hid; decide +kernel]
 subst hid
 refine wpAny_bind (wpAny_isInstance (T := "set") (b := true) ty (by rw [isSubtype_type]; kernel_rfl) ?_)
 refine wpAny_ite_split (fun q => absurd q (by decide)) (fun _ => wpAny_ite_split (fun _ => ?_) (fun q => absurd (by decide +kernel) q))
 exact wpAny_bind (wpAny_typeOf ty (wpAny_pure h))
theorem collect_raw (hh : A.handled = none) (ho : s.heap.get? a = some o) (hc : o.cls = .type "set") (hd : o.data = .set es ep t) (hf : t.fits es.size = true) (hr : Ris t.place) (hl : t.led = ledOf w) (hz : es.size ≤ sizeLine) {Q : List Value → Shared → Prop}
  (hQ : ∀ (z : Shared) (vs : List Value), (∀ b o, s.heap.get? b = some o → z.heap.get? b = some o) → z.gens = s.gens → z.os = s.os → vs.Perm (es.toList.map (·.2)) → Q vs z) : wpAny (model prog w) A (collect (.ref a)) Q E s := by
 have lt := Heap.lt_size ho
 unfold collect
 refine wpAny_bind (wpAny_runValue (codeAny_builtin F.entry_proto_collect ?_))
 rw [Around.under_plainId F.plain_proto_collect]
 show wpAny _ A.in1 (newList [] >>= fun l => again (.builtin "list.__iadd__" ⟨[l, .ref a], []⟩)) _ _ s
 refine wpAny_bind (wpAny_newObj_type (wpAny_pure ⟨plainId_quiet F.plain_list_iadd _, codeAny_builtin F.entry_list_iadd ?_⟩))
 rw [Around.under_plainId F.plain_list_iadd]
 show wpAny _ A.in1 (Builtin.List.listExtendWith (.ref s.heap.objs.size) (.ref a) (.ref s.heap.objs.size)) _ _ { s with heap := s.heap.push { cls := .type "list", data := .seq #[] } }
 have g0 : (s.heap.push { cls := .type "list", data := .seq #[] }).get? s.heap.objs.size = some { cls := .type "list", data := .seq #[] } := Heap.get?_push_size _ rfl
 have k0 : ∀ b o, s.heap.get? b = some o → (s.heap.push { cls := .type "list", data := .seq #[] }).get? b = some o := fun b o e => Heap.get?_push_of_some _ e
 have z0 : (s.heap.push { cls := .type "list", data := .seq #[] }).objs.size = s.heap.objs.size + 1 := Heap.size_push ..
 generalize s.heap.push { cls := .type "list", data := .seq #[] } = H at g0 k0 z0
 unfold Builtin.List.listExtendWith
 refine wpAny_bind (wpAny_typeOf (T := "set") ⟨o, k0 a o ho, hc⟩ ?_)
 have h1 : Builtin.List.listSameRef (.ref s.heap.objs.size) (.ref a) = false := by simp [Builtin.List.listSameRef]; lia
 have h2 : (Value.type "set" == Value.type "list") = false := by decide
 have h3 : (Value.type "set" == Value.type "tuple") = false := by decide
 simp only [h1, h2, h3, Bool.or_false, Bool.false_eq_true, if_false]
 refine wpAny_bind (iter_set (A := A.in1) (s := { s with heap := H }) (by simp [hh]) (k0 a o ho) hc hd hf hr hl hz fun z I fp vs St kz gz oz lI W hfp st pm => ?_)
 have vz : vs.size ≤ sizeLine := by have := pm.length_eq; simp at this; rw [this]; exact hz
 have nf : s.heap.objs.size ∉ fp := fun m => by
  have q := hfp _ m
  change _ ∨ H.objs.size ≤ _ at q
  rcases q with q | q <;> lia
 refine wpAny_bind (wpAny_holding (hint_set ⟨o, kz a o (k0 a o ho), hc⟩ ?_))
 have g1 := kz _ _ g0
 have key : ∀ (h : Heap) (c : Nat), St 0 h → (∀ b o, b ≠ s.heap.objs.size → z.heap.get? b = some o → h.get? b = some o) → h.get? s.heap.objs.size = some { cls := .type "list", data := .seq #[] c } →
   codeAny (model prog w) A (.builtin "list.extend.loop" ⟨[.ref s.heap.objs.size, .ref I, .ref s.heap.objs.size], []⟩) (fun r y => match r with | .ok (.ret v) => wpAny (model prog w) A (match v with | .ref b => (load b >>= fun o => match o.data with | .seq xs _ => pure xs.toList | _ => unsupported "internal:collect") | _ => unsupported "internal:collect") Q E y | .ok _ => False | .error e => E e y) { z with heap := h } := by
  intro h c st1 kh gh
  refine codeAny_extend_loopS (P := fun i v => vs[i]? = some v) W.toS vz _ nf _ vs.size 0 _ #[] c rfl (Nat.zero_le _) st1 gh (ItemsOf.nil _) fun y acc c' mv gy it => ?_
  refine wpAny_bind (wpAny_load gy (wpAny_pure ?_))
  have e : acc = vs := by
   apply Array.ext_getElem?
   intro i
   by_cases hi : i < acc.size
   ·rw [Array.getElem?_eq_getElem hi]; exact (it.2 i _ (Array.getElem?_eq_getElem hi)).symm
   ·rw [Array.getElem?_eq_none (by lia), Array.getElem?_eq_none (by rw [← it.1]; lia)]
  rw [e]
  refine hQ y vs.toList (fun b o q => ?_) (mv.gens.trans gz) (mv.os.trans oz) pm
  have hb := Heap.lt_size q
  refine mv.heap b o (fun m => ?_) (kh b o (Nat.ne_of_lt hb) (kz b o (k0 b o q)))
  simp only [List.mem_cons, List.not_mem_nil, or_false] at m
  change H.objs.size ≤ I at lI
  rcases m with m | m <;> lia
 refine wpAny_ite_split (fun _ => ?_) (fun _ => wpAny_pure ⟨plainId_quiet F.plain_extend_loop _, ?_⟩)
 ·refine wpAny_bind (wpAny_rule (wpAny_bind ?_))
  show wpAny _ _ (updateSeq s.heap.objs.size (·.push .none) >>= fun _ => updateSeq s.heap.objs.size (·.pop)) _ _ _
  refine wpAny_bind (wpAny_updateSeq g1 rfl ?_)
  have g2 := Heap.get?_update_self (Obj.mapSeq (·.push Value.none)) g1 rfl
  refine wpAny_updateSeq (hz := by seq_fits) g2 rfl (wpAny_pure ⟨plainId_quiet F.plain_extend_loop _, ?_⟩)
  have g3 := Heap.get?_update_self (Obj.mapSeq (·.pop)) g2 rfl
  have oth : ∀ b o, b ≠ s.heap.objs.size → z.heap.get? b = some o → ((z.heap.update s.heap.objs.size (Obj.mapSeq (·.push Value.none))).update s.heap.objs.size (Obj.mapSeq (·.pop))).get? b = some o := fun b o hb e =>
   (Heap.get?_update_other _ _ (Ne.symm hb)).trans ((Heap.get?_update_other _ _ (Ne.symm hb)).trans e)
  exact key _ _ (W.frame 0 _ _ st fun b hb o e => oth b o (fun q => nf (q ▸ hb)) e) oth g3
 ·exact key _ _ st (fun b o _ e => e) g1
theorem call_sortedSet {S : Int → Bool} {n : Nat} {Q : Value → Shared → Prop} (hh : A.handled = none) (hS : SetR prog w s.heap a S n (ledOf w)) (hn : n < 64)
  (hQ : ∀ (z : Shared) (out : Array Value) (ks : List Int) (q : Addr) (c : Nat), (∀ b o, s.heap.get? b = some o → z.heap.get? b = some o) → z.gens = s.gens → z.os = s.os → a < q → z.heap.get? q = some { cls := .type "list", data := .seq out c } →
   IntsAre out.toList ks → (∀ k, S k = true ↔ k ∈ ks) → ks.length = n → ks.Pairwise (· ≤ ·) → Q (.ref q) z) : wpAny (model prog w) A (call (.builtin "sorted") [.ref a]) Q E s := by
 obtain ⟨o, es, ep, t, ho, hx, hd, hel, hm, hb, hf, he, ri, le⟩ := hS
 refine Calls.call_function_entry kind_sorted plain_sorted entry_sorted (args_sorted1 _) ?_
 unfold Builtin.«sorted»
 refine wpAny_bind (m := checkCount "sorted" 1 1 _) (wpAny_pure ?_)
 have hh1 : A.in1.handled = none := by simp [hh]
 refine wpAny_bind (collect_raw hh1 ho hx.1 hd hf ri le (fits_of_scanBound hb) fun z vs kz gz oz pm => ?_)
 have iv : ∃ ns, IntsAre vs ns ∧ (∀ k, S k = true ↔ k ∈ ns) ∧ ns.length = n := by
  have h1 : ∀ v ∈ vs, ∃ k tk, v = .int k tk := fun v hv => by
   obtain ⟨e, m, rfl⟩ := List.mem_map.mp (pm.mem_iff.mp hv)
   obtain ⟨⟨k, hk, _⟩, _⟩ := hel e m
   obtain ⟨tk, q⟩ := Value.isInt_shape hk
   exact ⟨k, tk, q⟩
  have h2 : ∃ ns, IntsAre vs ns := by
   clear hm pm
   induction vs with
   | nil => exact ⟨[], .nil⟩
   | cons v vs ih =>
    obtain ⟨k, tk, rfl⟩ := h1 v List.mem_cons_self
    obtain ⟨ns, q⟩ := ih fun u hu => h1 u (List.mem_cons_of_mem _ hu)
    exact ⟨k :: ns, .cons _ _ q⟩
  obtain ⟨ns, hi⟩ := h2
  have h3 : ∀ {vs : List Value} {ns : List Int}, IntsAre vs ns → ∀ k, k ∈ ns ↔ ∃ v ∈ vs, Value.isInt k v = true := by
   intro vs ns hi
   induction hi with
   | nil => intro k; simp
   | cons m tk q ih =>
    intro k
    rw [List.mem_cons, ih k]
    constructor
    ·rintro (rfl | ⟨v, hv, e⟩)
     ·exact ⟨_, List.mem_cons_self, by simp [Value.isInt]⟩
     ·exact ⟨v, List.mem_cons_of_mem _ hv, e⟩
    ·rintro ⟨v, hv, e⟩
     rcases List.mem_cons.mp hv with rfl | hv
     ·left
      obtain ⟨tk', e'⟩ := Value.isInt_shape e
      cases e'; rfl
     ·exact .inr ⟨v, hv, e⟩
  refine ⟨ns, hi, fun k => ?_, ?_⟩
  ·rw [hm k, h3 hi k]
   constructor
   ·rintro ⟨e, m, q⟩
    exact ⟨e.2, pm.mem_iff.mpr (List.mem_map.mpr ⟨e, m, rfl⟩), q⟩
   ·rintro ⟨v, hv, q⟩
    obtain ⟨e, m, rfl⟩ := List.mem_map.mp (pm.mem_iff.mp hv)
    exact ⟨e, m, q⟩
  ·rw [← IntsAre.length hi, pm.length_eq, List.length_map, Array.length_toList, he]
 obtain ⟨ns, hi, hk, hlen⟩ := iv
 have h64 : vs.length < 64 := by rw [IntsAre.length hi, hlen]; exact hn
 refine wpAny_bind (wpAny_newList ?_)
 have g0 : (z.heap.push (seqObj "list" vs.toArray 0)).get? z.heap.objs.size = some (seqObj "list" vs.toArray 0) := Heap.get?_push_size _ rfl
 refine wpAny_bind (wpAny_holding (wpAny_call_entry (s := { z with heap := z.heap.push (seqObj "list" vs.toArray 0) }) slot_list_sort ⟨_, g0, rfl⟩ entry_list_sort (list_sort_tree g0 hi h64 fun out ks a1 a2 a3 => ⟨_, rfl, ?_⟩) (args_list_sort _)))
 refine wpAny_pure ⟨_, rfl, ?_⟩
 have h2 := Heap.get?_update_self (Obj.mapSeq fun _ => (#[] : Array Value)) g0 rfl
 have h3 := Heap.get?_push_of_some (seqObj "list" #[] 0) (Heap.get?_push_of_some (seqObj "tuple" vs.toArray 0) h2)
 have h4 := Heap.get?_update_self (Obj.mapSeq fun _ => out) h3 rfl
 refine hQ _ out ks z.heap.objs.size _ (fun b o e => ?_) gz oz (Heap.lt_size (kz a o ho)) h4 a1 (fun k => (hk k).trans (a2.mem_iff).symm) (a2.length_eq.trans hlen) a3
 have e2 := kz b o e
 have n1 : z.heap.objs.size ≠ b := Nat.ne_of_gt (Heap.lt_size e2)
 unfold sortedHeap
 rw [Heap.get?_update_other _ _ n1]
 refine Heap.get?_push_of_some _ (Heap.get?_push_of_some _ ?_)
 rw [Heap.get?_update_other _ _ n1]
 exact Heap.get?_push_of_some _ e2
end
end Fw.Set
namespace Fw
open PySem
noncomputable def dedS (l : List Int) (x : Int) : List Int := if l.any (· == x) then l else l ++ [x]
noncomputable def dedL (ns : List Int) : List Int := ns.foldl dedS []
theorem dedS_mem (l : List Int) (x k : Int) : k ∈ dedS l x ↔ k ∈ l ∨ k = x := by
 unfold dedS
 by_cases h : l.any (· == x) = true
 ·rw [if_pos h]
  constructor
  ·exact .inl
  ·rintro (q | rfl)
   ·exact q
   ·simpa using h
 ·rw [if_neg h]; simp
theorem dedS_nodup {l : List Int} (h : l.Nodup) (x : Int) : (dedS l x).Nodup := by
 unfold dedS
 by_cases q : l.any (· == x) = true
 ·rw [if_pos q]; exact h
 ·rw [if_neg q]
  have q2 : x ∉ l := by simpa using q
  rw [List.nodup_append]
  refine ⟨h, by simp, fun a ha b hb => ?_⟩
  simp at hb
  subst hb
  intro e; subst e; exact q2 ha
theorem ded_fold : ∀ (ns l : List Int), l.Nodup → (ns.foldl dedS l).Nodup ∧ ∀ k, k ∈ ns.foldl dedS l ↔ k ∈ l ∨ k ∈ ns
 | [], l, h => ⟨h, fun k => by simp⟩
 | x :: ns, l, h => by
  obtain ⟨a, b⟩ := ded_fold ns (dedS l x) (dedS_nodup h x)
  refine ⟨a, fun k => ?_⟩
  rw [List.foldl_cons, b k, dedS_mem]
  simp [or_assoc]
theorem dedL_nodup (ns : List Int) : (dedL ns).Nodup := (ded_fold ns [] List.nodup_nil).1
theorem dedL_mem (ns : List Int) (k : Int) : k ∈ dedL ns ↔ k ∈ ns := by
 have := (ded_fold ns [] List.nodup_nil).2 k
 simpa [dedL] using this
theorem perm_of_mem : ∀ {l m : List Int}, l.Nodup → (∀ k ∈ l, k ∈ m) → m.length ≤ l.length → m.Perm l
 | [], m, _, _, h => by
  cases m with
  | nil => exact .nil
  | cons y m => simp at h
 | x :: l, m, hn, hs, hl => by
  have hx : x ∈ m := hs x List.mem_cons_self
  refine (List.perm_cons_erase hx).trans (.cons x ?_)
  rw [List.nodup_cons] at hn
  refine perm_of_mem hn.2 (fun k hk => ?_) ?_
  ·have ne : k ≠ x := fun e => hn.1 (e ▸ hk)
   exact (List.mem_erase_of_ne ne).mpr (hs k (List.mem_cons_of_mem _ hk))
  ·rw [List.length_erase_of_mem hx]
   have : m.length ≤ l.length + 1 := by simpa using hl
   lia
noncomputable def fSortedSet : T → Option T
 | .lst ts => (asInts ts).bind fun ns => if ns.length < 60 then some (.lst ((sorL (dedL ns)).map T.int)) else none
 | _ => none
end Fw
namespace L2
open PySem PySem.Spec PyProof.Rows Fw Fw.Set
theorem dedL_le : ∀ (ns l : List Int), (ns.foldl dedS l).length ≤ l.length + ns.length
 | [], l => by simp
 | x :: ns, l => by
  have q := dedL_le ns (dedS l x)
  have q2 : (dedS l x).length ≤ l.length + 1 := by
   unfold dedS
   split
   ·lia
   ·simp
  simp only [List.foldl_cons, List.length_cons]
  lia
theorem firstMet_is (ns : List Int) : firstMet (fun i => ns.getD i 0) ns.length = dedL ns := by
 have e : (List.range ns.length).map (fun i => ns.getD i 0) = ns := by
  apply List.ext_getElem
  ·simp
  ·intro i h1 h2
   simp [h2]
 unfold firstMet
 rw [e]
 rfl
noncomputable def rSS (K : PySem.W.Frag) (xs : List V) (H : Hp) (Q : VK) : Prop := ∃ (p : Addr) (ns : List Int), xs = [.ref p] ∧ SqL K H p (ns.map V.int) ∧ ns.length < 60 ∧ ∀ q, H q = none → Q (.ref q) (upd H q (.lst ((sorL (dedL ns)).map V.int)))
theorem boot_set : bootBuiltins "set" = some (.type "set") := by decide +kernel
theorem boot_sorted : bootBuiltins "sorted" = some (.builtin "sorted") := by decide +kernel
theorem Inv.moved {X : Cx} {pins : List (Addr × Obj)} {σ : List (Option V)} {H : Hp} {s z : Shared} {tk : Nat} (I : Inv X pins σ H { s with heap := z.heap, toks := tk }) (g : z.gens = s.gens) (o : z.os = s.os) : Inv X pins σ H z :=
 ⟨I.ok, o.trans I.os, by rw [g]; exact I.bare, I.base, I.loc, I.cell, I.free, I.freeC, I.pin, I.hok, I.len⟩
theorem pe_sortedSet {X : Cx} {a : Expr} {t : TA} {p p2 pos pos2 : Pos} (hc : X.calm = true) (hg : Gl X "sorted") (hm : X.mg "sorted" = none) (hg2 : Gl X "set") (hm2 : X.mg "set" = none) (ha : PA X [a] t) (he : starEach [a] X.env = (false, eval a X.env) :: starEach [] X.env) (hpl2 : (backTo pos2 (starEach [] X.env)).any (·.1) = false)
  (hs1 : starEach [.Call (.Name "set" p2) [a] [] pos2] X.env = (false, eval (.Call (.Name "set" p2) [a] [] pos2) X.env) :: starEach [] X.env) (hpl : (backTo pos (starEach [] X.env)).any (·.1) = false) :
  PE X (.Call (.Name "sorted" p) [.Call (.Name "set" p2) [a] [] pos2] [] pos) (tCB (rSS X.K) t) := by
 intro pins s σ H Q I h
 refine wpAny_Call_Name_kw (ld_blt I hg hm boot_sorted ?_ (by decide) (by decide))
 refine PyProof.Rows.callWith_builtin1 ?_ hs1 hpl
 rw [hs1]
 show wpAny _ _ (spliced ((false, eval (.Call (.Name "set" p2) [a] [] pos2) X.env) :: backTo pos (starEach [] X.env))) _ _ s
 refine Calls.spliced_cons ?_
 refine wpAny_Call_Name_kw (ld_blt I hg2 hm2 boot_set ?_ (by decide) (by decide))
 refine PyProof.Rows.callWith_type1 (thn (ha pos2 pins s σ H _ I h) fun us s1 hX11_ => ?_) he hpl2
 obtain ⟨vs, H1, I1, r1, q1⟩ := hX11_
 obtain ⟨l, ns, rfl, hq, hlt, q⟩ := q1
 obtain ⟨u, rfl, ru⟩ := vals1 r1
 cases ru
 obtain ⟨its, rv, pl, hz⟩ := I1.list hq
 have hi : IntsAre its ns := intsAre_of rv
 have hl : its.length = ns.length := IntsAre.length hi
 have hin : X.A.handled = none := I.ok.hd hc
 refine call_set (its := its.toArray) hin pl.isList (by simpa using hi) (by show its.toArray.size + 1 < 4096; simp; lia) fun h' tk hS keep => ?_
 refine Calls.spliced_nil ?_
 rw [show its.toArray.size = ns.length by simp [hl], firstMet_is] at hS
 have hd : (dedL ns).length ≤ ns.length := by have := dedL_le ns []; simpa [dedL] using this
 refine call_sortedSet (s := { s1 with heap := h', toks := tk }) hin hS (by lia) fun z out ks q0 c kz gz oz lt g iv hk hlen pw => ?_
 have pm : ks.Perm (dedL ns) := perm_of_mem (dedL_nodup ns) (fun k hk2 => (hk k).mp (List.any_eq_true.mpr ⟨k, hk2, by simp⟩)) (Nat.le_of_eq hlen)
 have e := sorL_eq pm pw
 subst e
 have hle : s1.heap.objs.size ≤ q0 := Nat.le_of_lt lt
 have kk : ∀ b o, s1.heap.get? b = some o → z.heap.get? b = some o := fun b o e => kz b o (keep b o (Heap.lt_size e) e)
 refine ⟨.ref q0, _, Inv.moved (s := s1) (tk := s1.toks) (I1.laid (a := q0) (o := .lst ((sorL (dedL ns)).map V.int)) (t' := s1.toks) kk hle ⟨?_, out.toList, c, vals_intsAre iv, ?_⟩) gz oz, rfl, q _ (I1.hok.fresh hle)⟩
 ·rw [List.length_map, (sorL_perm _).length_eq]
  rw [List.length_map] at hz
  exact Nat.le_trans hd hz
 ·simpa using g
end L2
namespace Fw
open PySem PySem.Spec PyProof.Rows L2
theorem semF_sortedSet {K : PySem.W.Frag} : CallSemF K (rSS K) fSortedSet := by
 intro F H v t w Q s hv hw q
 cases t with
 | lst ts =>
  obtain ⟨ns, h1, h2⟩ := Option.bind_eq_some_iff.mp (show ((asInts ts).bind fun ns => if ns.length < 60 then some (T.lst ((sorL (dedL ns)).map T.int)) else none) = some w from hw)
  obtain ⟨a, vs, rfl, hq, hl⟩ := hv.lst_
  rw [asInts_eq h1] at hl
  rw [hl.ints'] at hq
  by_cases hlt : ns.length < 60
  ·rw [if_pos hlt] at h2
   cases h2
   exact ⟨a, ns, rfl, hq, hlt, fun p hp => q p _ hp ⟨_, upd_same, RepL.of_ints _⟩⟩
  ·rw [if_neg hlt] at h2; cases h2
 | _ => cases hw
theorem cf_sortedSet {X : Cx} {a : Expr} {da : D} {p p2 pos pos2 : Pos} (hm : X.mg "sorted" = none) (hm2 : X.mg "set" = none) (ha : CE X a da) (hc : X.calm = true := by rfl) (hg : Gl X "sorted" := by rfl) (hg2 : Gl X "set" := by rfl) (hs : starEach [a] X.env = (false, eval a X.env) :: starEach [] X.env := by rfl) (hpl2 : (backTo pos2 (starEach [] X.env)).any (·.1) = false := by rfl)
  (hs1 : starEach [.Call (.Name "set" p2) [a] [] pos2] X.env = (false, eval (.Call (.Name "set" p2) [a] [] pos2) X.env) :: starEach [] X.env := by rfl) (hpl : (backTo pos (starEach [] X.env)).any (·.1) = false := by rfl) :
  CF X (.Call (.Name "sorted" p) [.Call (.Name "set" p2) [a] [] pos2] [] pos) (dUn fSortedSet da) :=
 ⟨PE.imp (pe_sortedSet hc hg hm hg2 hm2 (ca_cons ha ca_nil hs) hs hpl2 hs1 hpl) (call1F semF_sortedSet), fun _ _ _ _ h => dUn_val h⟩
end Fw
namespace L2
open PySem PySem.Spec PyProof.Rows
section
variable {X : Cx} {pins : List (Addr × Obj)} {σ : L2.St} {H0 H' : Hp} {e t Cc C : Addr} {B h4 h' : Heap} {s1 s3 : Shared} {oC : Obj}
end
end L2
namespace L2
open PySem PySem.Spec PyProof.Rows Fw
section
variable {X : Cx} {elt iter tg : Expr} {scope : Scope} {pos : Pos} {N' : List Str} {g : TG} {mp : List (Option Nat)} {d : D}
end
end L2
namespace Fw
open PySem
end Fw
namespace Fw
open PySem
end Fw
namespace Fw
open PySem
end Fw
namespace Fw
open PySem L2 PyProof.Rows
section
variable {X : Cx} {di : DI} {mp : List (Option Nat)} {b : BD} {d : D}
end
end Fw
namespace L2
open PySem PySem.Spec PyProof.Rows Fw
section
variable {X : Cx}
end
end L2
namespace Fw
open PySem L2 PyProof.Rows
section
variable {X : Cx} {a b : Expr} {da db : D} {p pos : Pos}
end
end Fw
namespace L2
open PySem PySem.Spec PyProof.Rows Fw
end L2
namespace Fw
open PySem L2 PyProof.Rows
end Fw
namespace L2
open PySem PySem.Spec PyProof.Rows
section
variable {prog : Program} {w : World} {A : Around} {E : Value → Shared → Prop} {s : Shared}
noncomputable abbrev IsZipO (h : Heap) (z TI TO a : Addr) (f : Bool) : Prop := h.get? z = some { cls := .type "zip", dict := none, data := .fields #[rawInt a, .bool f, .bool false, .ref TI, .ref TO], slots := #[] }
structure ZOA (z TI i1 i2 l1 l2 : Addr) : Prop where
 TIz : TI ≠ z
 i1z : i1 ≠ z
 i2z : i2 ≠ z
 i12 : i1 ≠ i2
 l1z : l1 ≠ z
 l1i1 : l1 ≠ i1
 l2z : l2 ≠ z
 l2i1 : l2 ≠ i1
end
section
variable {X : Cx} {pins : List (Addr × Obj)} {σ : L2.St} {H : Hp} {s : Shared}
structure ZO (k1 k2 : Bool) (z TI TO i1 i2 l1 l2 : Addr) (i : Nat) (H : Hp) (h : Heap) : Prop where
 zz : IsZip h z TI TO .none ∨ ∃ a f ws, H a = some (.tup ws) ∧ IsZipO h z TI TO a f
 ti : IsPair h TI (.ref i1) (.ref i2)
 to : ∃ a b, IsPair h TO a b
 one : KIt k1 h i1 l1 i
 two : KIt k2 h i2 l2 i
theorem ZO.keep {k1 k2 : Bool} {z TI TO i1 i2 l1 l2 : Addr} {i : Nat} {h h' : Heap} (st : ZO k1 k2 z TI TO i1 i2 l1 l2 i H h) (k : ∀ b ∈ [z, TI, TO, i1, i2], ∀ o, h.get? b = some o → h'.get? b = some o) : ZO k1 k2 z TI TO i1 i2 l1 l2 i H h' := by
 obtain ⟨a, b, hto⟩ := st.to
 refine ⟨?_, k TI (.tail _ (.head _)) _ st.ti, ⟨a, b, k TO (.tail _ (.tail _ (.head _))) _ hto⟩, st.one.at fun o e => k i1 (.tail _ (.tail _ (.tail _ (.head _)))) o e, st.two.at fun o e => k i2 (.tail _ (.tail _ (.tail _ (.tail _ (.head _))))) o e⟩
 rcases st.zz with hz | ⟨c, f, ws, hc, hz⟩
 ·exact .inl (k z (.head _) _ hz)
 ·exact .inr ⟨c, f, ws, hc, k z (.head _) _ hz⟩
theorem ZO.apart {k1 k2 : Bool} {z TI TO i1 i2 l1 l2 : Addr} {i : Nat} {xs ys : List V} (d1 : TI ≠ TO) (d2 : i1 ≠ i2) (I : Inv X pins σ H s) (hf : ∀ b ∈ [z, TI, TO, i1, i2], FpOk X pins H b) (st : ZO k1 k2 z TI TO i1 i2 l1 l2 i H s.heap) (h1 : KSqV X.K k1 H l1 xs) (h2 : KSqV X.K k2 H l2 ys) :
  ZipApart z TI TO i1 i2 l1 l2 ∧ ZOA z TI i1 i2 l1 l2 := by
 obtain ⟨a, b, hto⟩ := st.to
 obtain ⟨o1, e1, q1⟩ := st.one.ob
 obtain ⟨o2, e2, q2⟩ := st.two.ob
 obtain ⟨oz, vz, ez, qz, sz⟩ : ∃ (oz : Obj) (vz : Array Value), s.heap.get? z = some oz ∧ oz.data = .fields vz ∧ vz.size = 5 := by
  rcases st.zz with hz | ⟨c, f, ws, hc, hz⟩
  ·exact ⟨_, _, hz, rfl, rfl⟩
  ·exact ⟨_, _, hz, rfl, rfl⟩
 have neP : ∀ {c d : Addr} {o : Obj} {u v : Value} {vs : Array Value}, IsPair s.heap c u v → s.heap.get? d = some o → o.data = .fields vs → c ≠ d := fun {c d o u v vs} hp ho hd e => by
  subst e
  have hp : s.heap.get? c = some { cls := .type "tuple", data := .seq #[u, v] } := hp
  rw [hp] at ho; cases ho; cases hd
 have neZ : ∀ {d : Addr} {l : Addr} {o : Obj} {n : Nat}, s.heap.get? d = some o → o.data = .fields #[.ref l, .int n 0] → d ≠ z := fun {d l o n} ho hd e => by
  subst e
  rw [ez] at ho; cases ho
  rw [qz] at hd
  have : vz = #[.ref l, .int n 0] := by injection hd
  rw [this] at sz
  exact absurd sz (by simp)
 have w : ∀ c ∈ [z, TI, TO, i1, i2], l1 ≠ c ∧ l2 ≠ c := fun c hc => ⟨ksqv_own I h1 (hf c hc), ksqv_own I h2 (hf c hc)⟩
 have D : ZipApart z TI TO i1 i2 l1 l2 := { TIz := neP st.ti ez qz, TOz := neP hto ez qz, i1z := neZ e1 q1, i2z := neZ e2 q2, TITO := d1, TIi1 := neP st.ti e1 q1, TIi2 := neP st.ti e2 q2, TOi1 := neP hto e1 q1, TOi2 := neP hto e2 q2, i12 := d2, l1z := (w z (.head _)).1, l1TO := (w TO (.tail _ (.tail _ (.head _)))).1, l1i1 := (w i1 (.tail _ (.tail _ (.tail _ (.head _))))).1, l1i2 := (w i2 (.tail _ (.tail _ (.tail _ (.tail _ (.head _)))))).1, l2z := (w z (.head _)).2, l2TO := (w TO (.tail _ (.tail _ (.head _)))).2, l2i1 := (w i1 (.tail _ (.tail _ (.tail _ (.head _))))).2, l2i2 := (w i2 (.tail _ (.tail _ (.tail _ (.tail _ (.head _)))))).2 }
 exact ⟨D, ⟨D.TIz, D.i1z, D.i2z, D.i12, D.l1z, D.l1i1, D.l2z, D.l2i1⟩⟩
end
end L2
namespace L2
open PySem PySem.Spec PyProof.Rows
end L2
namespace Fw
open PySem PySem.Spec PyProof.Rows L2
end Fw
namespace L2
open PySem PySem.Spec PyProof.Rows
end L2
namespace Fw
open PySem PySem.Spec PyProof.Rows L2
end Fw
namespace L2
open PySem PySem.Spec PyProof.Rows
theorem tok1 {α : Type} {M : Model} {A : Around} {t : Sem α} {n : Nat} {Q : α → Shared → Prop} {E : Value → Shared → Prop} {s : Shared} (hn : n ≤ s.toks) (h : wpAny M A t Q E s) : wpAny M A t (fun a s' => Q a s' ∧ n ≤ s'.toks) E s :=
 wpAny_mono (wpAny_toks_of hn h) (fun _ _ h => ⟨h.2, h.1⟩) fun _ _ h => h.2
noncomputable def PEp (X : Cx) (e : Expr) (t : TE) : Prop :=
 ∀ (pins : List (Addr × Obj)) (s : Shared) (σ : St) (H : Hp) (Q : VK), Inv X pins σ H s → t σ H Q → wpAny (model X.prog X.w) X.A (eval e X.env) (fun v s' => EP X pins σ Q v s' ∧ 1 ≤ s'.toks) X.xe s
noncomputable def PEh (X : Cx) (e : Expr) (t : TE) : Prop :=
 ∀ (pins : List (Addr × Obj)) (s : Shared) (σ : St) (H : Hp) (Q : VK), Inv X pins σ H s → 1 ≤ s.toks → t σ H Q → wpAny (model X.prog X.w) X.A (eval e X.env) (EP X pins σ Q) X.xe s
noncomputable def PAp (X : Cx) (es : List Expr) (t : TA) : Prop :=
 ∀ (pos : Pos) (pins : List (Addr × Obj)) (s : Shared) (σ : St) (H : Hp) (Q : List V → Hp → Prop), Inv X pins σ H s → t σ H Q → wpAny (model X.prog X.w) X.A (spliced (backTo pos (starEach es X.env))) (fun us s' => AP X pins σ Q us s' ∧ 1 ≤ s'.toks) X.xe s
noncomputable def PSp (X : Cx) (st : Stmt) (t : TS) : Prop :=
 ∀ (pins : List (Addr × Obj)) (s : Shared) (σ : St) (H : Hp) (D : Ends), Inv X pins σ H s → t D σ H → wpAny (model X.prog X.w) X.A (exec st X.env) (fun f s' => SP X pins D f s' ∧ 1 ≤ s'.toks) X.xe s
noncomputable def PSh (X : Cx) (st : Stmt) (t : TS) : Prop :=
 ∀ (pins : List (Addr × Obj)) (s : Shared) (σ : St) (H : Hp) (D : Ends), Inv X pins σ H s → 1 ≤ s.toks → t D σ H → wpAny (model X.prog X.w) X.A (exec st X.env) (SP X pins D) X.xe s
noncomputable def PSsh (X : Cx) (st : List Stmt) (t : TS) : Prop :=
 ∀ (pins : List (Addr × Obj)) (s : Shared) (σ : St) (H : Hp) (D : Ends), Inv X pins σ H s → 1 ≤ s.toks → t D σ H → wpAny (model X.prog X.w) X.A (execs st X.env) (SP X pins D) X.xe s
section
variable {X : Cx} {a b e o : Expr} {es : List Expr} {st : Stmt} {rest : List Stmt} {ta tb te to : TE} {t : TA} {tt u : TS} {pos apos cpos : Pos}
theorem PEp.imp {t t' : TE} (h : PEp X e t) (i : ∀ σ H Q, t' σ H Q → t σ H Q) : PEp X e t' := fun pins s σ H Q I q => h pins s σ H Q I (i σ H Q q)
theorem PEh.imp {t t' : TE} (h : PEh X e t) (i : ∀ σ H Q, t' σ H Q → t σ H Q) : PEh X e t' := fun pins s σ H Q I p q => h pins s σ H Q I p (i σ H Q q)
theorem PAp.imp {t t' : TA} (h : PAp X es t) (i : ∀ σ H Q, t' σ H Q → t σ H Q) : PAp X es t' := fun pos pins s σ H Q I q => h pos pins s σ H Q I (i σ H Q q)
theorem PSp.imp {t t' : TS} (h : PSp X st t) (i : ∀ D σ H, t' D σ H → t D σ H) : PSp X st t' := fun pins s σ H D I q => h pins s σ H D I (i D σ H q)
theorem PSh.imp {t t' : TS} (h : PSh X st t) (i : ∀ D σ H, t' D σ H → t D σ H) : PSh X st t' := fun pins s σ H D I p q => h pins s σ H D I p (i D σ H q)
theorem PSsh.imp {t t' : TS} (h : PSsh X rest t) (i : ∀ D σ H, t' D σ H → t D σ H) : PSsh X rest t' := fun pins s σ H D I p q => h pins s σ H D I p (i D σ H q)
theorem PE.h (h : PE X e te) : PEh X e te := fun pins s σ H Q I _ q => h pins s σ H Q I q
theorem pep_int {i j pos} : PEp X (.Constant (.int i) j pos) (tC (.int i)) := fun _ _ _ H _ I h => wpAny_Constant_int ⟨⟨.int i, H, I.tok _, ⟨_, rfl⟩, h⟩, Nat.succ_le_succ (Nat.zero_le _)⟩
theorem pep_op {op : Operator} {r : R2} (ho : OpR X (binaryOp op) r) (ha : PEp X a ta) (hb : PE X b tb) : PEp X (.BinOp a op b pos) (tOp r ta tb) := by
 intro pins s σ H Q I h
 refine wpAny_BinOp (thn (ha pins s σ H _ I h) fun v s1 hX11_ => ?_)
 obtain ⟨⟨x, H1, I1, r1, q1⟩, p1⟩ := hX11_
 refine thn (tok1 p1 (hb pins s1 σ H1 _ I1 q1)) fun u s2 hX21_ => ?_
 obtain ⟨⟨y, H2, I2, r2, q2⟩, p2⟩ := hX21_
 exact tok1 p2 (ho pins s2 σ H2 x y v u Q I2 r1 r2 q2)
theorem pap_l (ha : PEp X e te) (hr : PA X es t) (hs : starEach (e :: es) X.env = (false, eval e X.env) :: starEach es X.env := by rfl) : PAp X (e :: es) (tCons te t) := by
 intro pos pins s σ H Q I h
 rw [hs]
 show wpAny _ _ (spliced ((false, eval e X.env) :: backTo pos (starEach es X.env))) _ _ s
 refine Calls.spliced_cons (thn (ha pins s σ H _ I h) fun u s1 hX11_ => ?_)
 obtain ⟨⟨x, H1, I1, r1, q1⟩, p1⟩ := hX11_
 exact thn (tok1 p1 (hr pos pins s1 σ H1 _ I1 q1)) fun us s2 ⟨⟨xs, H2, I2, r2, q2⟩, p2⟩ => ⟨⟨x :: xs, H2, I2, .cons r1 r2, q2⟩, p2⟩
theorem pap_r (ha : PE X e te) (hr : PAp X es t) (hs : starEach (e :: es) X.env = (false, eval e X.env) :: starEach es X.env := by rfl) : PAp X (e :: es) (tCons te t) := by
 intro pos pins s σ H Q I h
 rw [hs]
 show wpAny _ _ (spliced ((false, eval e X.env) :: backTo pos (starEach es X.env))) _ _ s
 refine Calls.spliced_cons (thn (ha pins s σ H _ I h) fun u s1 hX11_ => ?_)
 obtain ⟨x, H1, I1, r1, q1⟩ := hX11_
 exact thn (hr pos pins s1 σ H1 _ I1 q1) fun us s2 ⟨⟨xs, H2, I2, r2, q2⟩, p2⟩ => ⟨⟨x :: xs, H2, I2, .cons r1 r2, q2⟩, p2⟩
theorem pep_call {CX : CXT} {k : Nat} {f : Addr} {fd : FuncData} {ps : List Str} {sp : Sp} {x : Str} {ds : List Value} {dvs : List V} {E : XK} {p : Pos} (F : FnOk X.prog X.w X.K X.mg X.base CX k f fd ps sp) (hr : Room k X.A) (hg : Gl X x) (hm : X.mg x = some (.ref f)) (hk : PySem.W.keepIn X.K (.ref f) = true) (hb : Binds X.K fd ps ds) (hd : Vals dvs ds) (hx : Passes CX X E)
  (ha : PAp X (e :: es) t) (hdb : (x == ("__debug__" : Str)) = false := by decide) (he : starEach (e :: es) X.env = (false, eval e X.env) :: starEach es X.env := by rfl) (hpl : (backTo pos (starEach es X.env)).any (·.1) = false := by rfl) :
  PEp X (.Call (.Name x p) (e :: es) [] pos) (tCall sp dvs E t) := by
 intro pins s σ H Q I h
 refine wpAny_Call_Name_kw (ld_glob I hg hm ?_ hdb)
 refine PySem.W.callWith_K (h₀ := X.base) I.ok.mod.kin hk (thn (ha pos pins s σ H _ I h) fun us s1 ⟨⟨vs, H1, I1, r, q⟩, p1⟩ => ⟨I1.kIn, ?_⟩) he hpl
 exact tok1 p1 (run_fn F hr hb hd hx I1 r q)
theorem psp_set {i : Nat} {x : Str} {pos' : Pos} (hN : X.N.Nodup) (hi : X.N[i]? = some x) (hx : Loc X.env.scope x) (he : PEp X e te) (hs : swapsWith e (some (.Name x pos')) pos.line X.env = pure false := by rfl) (hf : X.fn x = true ∨ X.env.scope.names.lookup x = some .local) :
  PSp X (.Assign [.Name x pos'] e pos) (tAsg te (gName i)) := by
 intro pins s σ H D I h
 refine wpAny_Assign_Name (thn (he pins s σ H _ I h) fun v s1 hX11_ => ?_) hs
 obtain ⟨⟨y, H1, I1, r1, q1⟩, p1⟩ := hX11_
 exact tok1 p1 (store_ok I1 hN hi hx r1 (fun s2 I2 => ⟨_, H1, I2, q1⟩) hf)
theorem psh_set {i : Nat} {x : Str} {pos' : Pos} (hN : X.N.Nodup) (hi : X.N[i]? = some x) (hx : Loc X.env.scope x) (he : PEh X e te) (hs : swapsWith e (some (.Name x pos')) pos.line X.env = pure false := by rfl) (hf : X.fn x = true ∨ X.env.scope.names.lookup x = some .local) :
  PSh X (.Assign [.Name x pos'] e pos) (tAsg te (gName i)) := by
 intro pins s σ H D I p h
 refine wpAny_Assign_Name (thn (he pins s σ H _ I p h) fun v s1 hX11_ => ?_) hs
 obtain ⟨y, H1, I1, r1, q1⟩ := hX11_
 exact store_ok I1 hN hi hx r1 (fun s2 I2 => ⟨_, H1, I2, q1⟩) hf
theorem pssp_cons (h1 : PSp X st tt) (h2 : PSsh X rest u) : PSs X (st :: rest) (tSeq tt u) := by
 intro pins s σ H D I h
 refine wpAny_execs_cons (thn (h1 pins s σ H { D with nx := u D } I h) fun f s1 hX11_ => ?_)
 obtain ⟨q, p1⟩ := hX11_
 cases f with
 | next =>
  obtain ⟨σ', H', I', q⟩ := q
  exact h2 pins s1 σ' H' D I' p1 q
 | ret v => exact q
 | brk => exact q
 | cont => exact q
theorem pssh_cons (h1 : PSh X st tt) (h2 : PSs X rest u) : PSsh X (st :: rest) (tSeq tt u) := by
 intro pins s σ H D I p h
 refine wpAny_execs_cons (thn (h1 pins s σ H { D with nx := u D } I p h) fun f s1 q => ?_)
 cases f with
 | next =>
  obtain ⟨σ', H', I', q⟩ := q
  exact h2 pins s1 σ' H' D I' q
 | ret v => exact q
 | brk => exact q
 | cont => exact q
noncomputable def tRepl (y z : Str) (to : TE) : TE := fun σ H Q => to σ H fun x H1 => ∃ w, x = .str w ∧ w.length + (w.length + 1) * z.length ≤ 16777216 ∧ Q (.str (Txt.replace w y z)) H1
theorem peh_repl {y z : Str} {k1 k2 : Nat} {p1 p2 : Pos} (hyz : (y == z) = false) (ho : PEh X o to)
  (hbase : attributeBase o "replace" X.env (eval o X.env) = eval o X.env := by rfl)
  (hfew : ((backTo cpos (starEach [.Constant (.str y) k1 p1, .Constant (.str z) k2 p2] X.env)).all (fun x => !x.1) && (backToKw cpos (keywordEach [] X.env)).all (fun x => x.1.isSome)
   && decide (([.Constant (.str y) k1 p1, .Constant (.str z) k2 p2] : List Expr).length + ([] : List Keyword).length + (if ([] : List Keyword).isEmpty then 0 else 1) < 30)) = true := by rfl)
  (hline : (apos.endLine == cpos.line) = true := by rfl) (hs : starEach [.Constant (.str y) k1 p1, .Constant (.str z) k2 p2] X.env = [(false, eval (.Constant (.str y) k1 p1) X.env), (false, eval (.Constant (.str z) k2 p2) X.env)] := by rfl) :
  PEh X (.Call (.Attribute o "replace" apos) [.Constant (.str y) k1 p1, .Constant (.str z) k2 p2] [] cpos) (tRepl y z to) := by
 intro pins s σ H Q I hp h
 refine wpAny_Call_method_late hbase hfew hline rfl (thn (tok1 hp (ho pins s σ H _ I hp h)) fun v s1 hX11_ => ?_)
 obtain ⟨⟨x, H1, I1, r1, w, e1, hw, q1⟩, p1'⟩ := hX11_
 subst e1
 obtain ⟨h1, h2⟩ := tyV_is (T := "str") I1 r1 rfl
 refine ⟨"str", "str.replace", PySem.F.plainAttrs_str, PySem.F.slot_str_replace, PySem.F.type_str_replace, h1, h2, ?_⟩
 obtain ⟨t, rfl⟩ := r1
 rw [hs]
 refine Calls.callWith_builtin rfl (Calls.evalArgs_plain ?_)
 refine Calls.spliced_cons (Calls.Constant_str (k := k1) (pos := p1) ?_)
 refine Calls.spliced_cons (Calls.Constant_str (k := k2) (pos := p2) ?_)
 refine Calls.spliced_nil ?_
 have z0 : s1.toks ≠ 0 := by omega
 exact SC.replace z0 (Nat.succ_ne_zero _) (Nat.ne_of_lt (Nat.lt_succ_self _)) hyz hw fun t' k => ⟨.str (Txt.replace w y z), H1, I1.tok _, ⟨_, rfl⟩, q1⟩
end
end L2
namespace Fw
open PySem
noncomputable def replT (y z : Str) : T → Option T
 | .str x => if x.length + (x.length + 1) * z.length ≤ 16777216 then some (.str (Txt.replace x y z)) else none
 | _ => none
end Fw
namespace Fw
open PySem L2
noncomputable def CEp (X : Cx) (e : Expr) (d : D) : Prop := PEp X e (tD X d)
noncomputable def CEh (X : Cx) (e : Expr) (d : D) : Prop := PEh X e (tD X d)
noncomputable def CAp (X : Cx) (es : List Expr) (ds : List D) : Prop := PAp X es (tDA X ds)
noncomputable def CSp (X : Cx) (st : Stmt) (d : DS) : Prop := PSp X st (tDS X d)
noncomputable def CSh (X : Cx) (st : Stmt) (d : DS) : Prop := PSh X st (tDS X d)
noncomputable def CSsh (X : Cx) (st : List Stmt) (d : DS) : Prop := PSsh X st (tDS X d)
section
variable {X : Cx} {a b o e : Expr} {es : List Expr} {da db do_ de : D} {ds : List D} {st : Stmt} {sts : List Stmt} {d1 d2 : DS} {pos apos cpos : Pos}
theorem cep_int {i : Int} {j pos} : CEp X (.Constant (.int i) j pos) (dC (.int i)) := PEp.imp pep_int fun σ H Q ⟨F, α, e, μ, S, h⟩ => h _ H F α Ex.refl S (Rep.int' (K := X.K) (F := F) i)
theorem cep_add (ha : CEp X a da) (hb : CE X b db) : CEp X (.BinOp a .Add b pos) (dBin fAdd da db) := PEp.imp (pep_op (op_add.or (op_add_str.or (op_catTA.or op_catS))) ha hb) (two sem_add)
theorem cap_l (ha : CEp X a da) (hr : CA X es ds) (hs : starEach (a :: es) X.env = (false, eval a X.env) :: starEach es X.env := by rfl) : CAp X (a :: es) (da :: ds) :=
 PAp.imp (pap_l ha hr hs) fun σ H Q hX11_ => by
  obtain ⟨F, α, e, μ, S, h⟩ := hX11_
  rw [dArgs_cons] at h
  refine ⟨F, α, e, μ, S, (R.wp_bind h).mono (fun x μ1 h v H1 F1 α1 x1 S1 o1 => ⟨F1, α1, e, μ1, S1, ?_⟩) fun _ _ h => h⟩
  refine (R.wp_bind h).mono (fun xs μ2 h vs H2 F2 α2 x2 S2 o2 => ?_) fun _ _ h => h.mono x1
  exact h (v :: vs) H2 F2 α2 (x1.trans x2) S2 (.cons (o1.mono x2.same x2.pre) o2)
theorem cap_r (ha : CE X a da) (hr : CAp X es ds) (hs : starEach (a :: es) X.env = (false, eval a X.env) :: starEach es X.env := by rfl) : CAp X (a :: es) (da :: ds) :=
 PAp.imp (pap_r ha hr hs) fun σ H Q hX11_ => by
  obtain ⟨F, α, e, μ, S, h⟩ := hX11_
  rw [dArgs_cons] at h
  refine ⟨F, α, e, μ, S, (R.wp_bind h).mono (fun x μ1 h v H1 F1 α1 x1 S1 o1 => ⟨F1, α1, e, μ1, S1, ?_⟩) fun _ _ h => h⟩
  refine (R.wp_bind h).mono (fun xs μ2 h vs H2 F2 α2 x2 S2 o2 => ?_) fun _ _ h => h.mono x1
  exact h (v :: vs) H2 F2 α2 (x1.trans x2) S2 (.cons (o1.mono x2.same x2.pre) o2)
theorem cep_call {f : Addr} {fd : FuncData} {ps : List Str} {x : Str} {p : Pos} {fn : FN} {k : Nat} (G : FnOk X.prog X.w X.K X.mg X.base CX0 k f fd ps (spD X.K fn ps.length)) (hr : Room k X.A) (hm : X.mg x = some (.ref f)) (hk : PySem.W.keepIn X.K (.ref f) = true) (hb : Binds X.K fd ps []) (ha : CAp X (e :: es) ds)
  (hl : ds.length = ps.length := by rfl) (hg : Gl X x := by rfl) (hdb : (x == ("__debug__" : Str)) = false := by decide) (he : starEach (e :: es) X.env = (false, eval e X.env) :: starEach es X.env := by rfl) (hpl : (backTo pos (starEach es X.env)).any (·.1) = false := by rfl) :
  CEp X (.Call (.Name x p) (e :: es) [] pos) (dCall (cal fn) ds) := PEp.imp (pep_call G hr hg hm hk hb .nil pass0 ha hdb he hpl) fun σ H Q q => call_read hl q
theorem csp_set (i : Nat) {x : Str} {pos' : Pos} (hN : X.N.Nodup) (he : CEp X e de) (hi : X.N[i]? = some x := by rfl) (hx : Loc X.env.scope x := by first | exact Or.inl rfl | exact Or.inr rfl) (hs : swapsWith e (some (.Name x pos')) pos.line X.env = pure false := by rfl)
  (hf : X.fn x = true ∨ X.env.scope.names.lookup x = some .local := by first | exact .inl rfl | exact .inr rfl | assumption) : CSp X (.Assign [.Name x pos'] e pos) (sSet i de) :=
 PSp.imp (psp_set hN hi hx he hs hf) fun D σ H ⟨F, α, e, μ, S, h⟩ =>
  ⟨F, α, e, μ, S, (PostS.toS h).mono (fun x μ1 h v H1 F1 α1 x1 S1 o1 => h _ H1 F1 α1 x1 (S1.set o1)) fun _ _ h => h⟩
theorem csh_set (i : Nat) {x : Str} {pos' : Pos} (hN : X.N.Nodup) (he : CEh X e de) (hi : X.N[i]? = some x := by rfl) (hx : Loc X.env.scope x := by first | exact Or.inl rfl | exact Or.inr rfl) (hs : swapsWith e (some (.Name x pos')) pos.line X.env = pure false := by rfl)
  (hf : X.fn x = true ∨ X.env.scope.names.lookup x = some .local := by first | exact .inl rfl | exact .inr rfl | assumption) : CSh X (.Assign [.Name x pos'] e pos) (sSet i de) :=
 PSh.imp (psh_set hN hi hx he hs hf) fun D σ H ⟨F, α, e, μ, S, h⟩ =>
  ⟨F, α, e, μ, S, (PostS.toS h).mono (fun x μ1 h v H1 F1 α1 x1 S1 o1 => h _ H1 F1 α1 x1 (S1.set o1)) fun _ _ h => h⟩
theorem cssp_cons (h1 : CSp X st d1) (h2 : CSsh X sts d2) : CSs X (st :: sts) (sSeq d1 d2) := PSs.imp (pssp_cons h1 h2) fun D σ H hX11_ => by
 obtain ⟨F, α, e, μ, S, h⟩ := hX11_
 refine ⟨F, α, e, μ, S, ?_⟩
 unfold sSeq at h
 cases q : d1 e μ with
 | nx e1 μ1 =>
  rw [q] at h
  exact fun σ' H' F' α' x S' => ⟨F', α', e1, μ1, S', h.mono x⟩
 | rt x μ1 => rw [q] at h; exact h
 | bk e1 μ1 => rw [q] at h; exact h
 | ct e1 μ1 => rw [q] at h; exact h
 | err c e1 μ1 => rw [q] at h; exact h
 | bad => rw [q] at h; exact h
theorem cssh_cons (h1 : CSh X st d1) (h2 : CSs X sts d2) : CSsh X (st :: sts) (sSeq d1 d2) := PSsh.imp (pssh_cons h1 h2) fun D σ H hX11_ => by
 obtain ⟨F, α, e, μ, S, h⟩ := hX11_
 refine ⟨F, α, e, μ, S, ?_⟩
 unfold sSeq at h
 cases q : d1 e μ with
 | nx e1 μ1 =>
  rw [q] at h
  exact fun σ' H' F' α' x S' => ⟨F', α', e1, μ1, S', h.mono x⟩
 | rt x μ1 => rw [q] at h; exact h
 | bk e1 μ1 => rw [q] at h; exact h
 | ct e1 μ1 => rw [q] at h; exact h
 | err c e1 μ1 => rw [q] at h; exact h
 | bad => rw [q] at h; exact h
theorem ceh_of (h : CE X e de) : CEh X e de := PE.h h
theorem ceh_repl {y z : Str} {k1 k2 : Nat} {p1 p2 : Pos} (hyz : (y == z) = false) (ho : CEh X o do_)
  (hbase : attributeBase o "replace" X.env (eval o X.env) = eval o X.env := by rfl)
  (hfew : ((backTo cpos (starEach [.Constant (.str y) k1 p1, .Constant (.str z) k2 p2] X.env)).all (fun x => !x.1) && (backToKw cpos (keywordEach [] X.env)).all (fun x => x.1.isSome)
   && decide (([.Constant (.str y) k1 p1, .Constant (.str z) k2 p2] : List Expr).length + ([] : List Keyword).length + (if ([] : List Keyword).isEmpty then 0 else 1) < 30)) = true := by rfl)
  (hline : (apos.endLine == cpos.line) = true := by rfl) (hs : starEach [.Constant (.str y) k1 p1, .Constant (.str z) k2 p2] X.env = [(false, eval (.Constant (.str y) k1 p1) X.env), (false, eval (.Constant (.str z) k2 p2) X.env)] := by rfl) :
  CEh X (.Call (.Attribute o "replace" apos) [.Constant (.str y) k1 p1, .Constant (.str z) k2 p2] [] cpos) (dUn (replT y z) do_) :=
 PEh.imp (peh_repl hyz ho hbase hfew hline hs) fun σ H Q hX11_ => by
  obtain ⟨F, α, e, μ, S, h⟩ := hX11_
  refine ⟨F, α, e, μ, S, (R.wp_bind h).mono (fun x μ1 h v H1 F1 α1 x1 S1 o1 => ?_) fun _ _ h => h⟩
  obtain ⟨w, h9, post⟩ := R.wp_lift h
  obtain ⟨t, w', ht, h, e2⟩ := ap1_eq h9
  subst e2
  have n1 := now_of S1.st o1 ht
  cases t with
  | str z' =>
   by_cases hl : z'.length + (z'.length + 1) * z.length ≤ 16777216
   ·have h : (if z'.length + (z'.length + 1) * z.length ≤ 16777216 then some (T.str (Txt.replace z' y z)) else none) = some w' := h
    rw [if_pos hl] at h
    cases h
    exact ⟨z', n1.str, hl, post _ H1 F1 α1 x1 S1 (Rep.str' (K := X.K) (F := F1) _)⟩
   ·have h : (if z'.length + (z'.length + 1) * z.length ≤ 16777216 then some (T.str (Txt.replace z' y z)) else none) = some w' := h
    rw [if_neg hl] at h
    cases h
  | _ => cases h
end
end Fw
namespace Fw.k14
open PySem Fw
noncomputable def b_is_hand : DS :=
 (sRet (dBin fEq (dIdx (dVar 0) (dC (.int 0))) (dC (.str "hand"))))
noncomputable def fV_is_hand : FN := fnV 1 b_is_hand
noncomputable def b_fits (self_fits : FN) : DS :=
 (sSeq (sIf (dCall (cal fV_is_hand) [(dVar 0)]) (sRet (dBin fIn (dIdx (dVar 0) (dC (.int 1))) (dVar 1))) sNil)
 (sRet (dBin fGe (dLen (dComp (iSeq (dIdx (dVar 0) (dC (.int 2)))) [none, some 1] (bName 0) (dCall (cal self_fits) [(dVar 0), (dVar 1)]) (dVar 0))) (dIdx (dVar 0) (dC (.int 1))))))
noncomputable def fV_fits : Nat → FN
 | 0 => fun _ _ => .bad
 | n + 1 => fnV 2 (b_fits (fV_fits n))
noncomputable def b_hands_written (self_hands_written : FN) : DS :=
 (sSeq (sIf (dCall (cal fV_is_hand) [(dVar 0)]) (sRet (dLst [(dIdx (dVar 0) (dC (.int 1)))])) sNil)
 (sSeq (sSet 1 (dCell (dLst [])))
 (sSeq (sFor (iSeq (dIdx (dVar 0) (dC (.int 2)))) (bName 2) (sExtend (dVar 1) (dCall (cal self_hands_written) [(dVar 2)])))
 (sRet (dVar 1)))))
noncomputable def fV_hands_written : Nat → FN
 | 0 => fun _ _ => .bad
 | n + 1 => fnV 3 (b_hands_written (fV_hands_written n))
noncomputable def b_hands_in : DS :=
 (sRet (dCell (dUn fSortedSet (dCall (cal (fV_hands_written 8)) [(dVar 0)]))))
noncomputable def fD_hands_in : FN := fnD 1 b_hands_in
noncomputable def fV_hands_in : FN := fnV 1 b_hands_in
noncomputable def b__law_cell_at : DS :=
 (sSeq (sIf (dBin fLt (dVar 1) (dLen (dVar 0))) (sRet (dIdx (dVar 0) (dVar 1))) sNil)
 (sSeq (sIf (dBin fEq (dLen (dVar 0)) (dC (.int 0))) (sRet (dBin fAdd (dBin fMulA (dBin fMulA (dVar 1) (dVar 1)) (dC (.int 48271))) (dBin fMulA (dC (.int 7)) (dVar 1)))) sNil)
 (sRet (dBin fAdd (dBin fDiv (dIdx (dVar 0) (dBin fMod (dVar 1) (dLen (dVar 0)))) (dBin fAdd (dC (.int 1)) (dBin fDiv (dVar 1) (dLen (dVar 0))))) (dBin fMulA (dBin fMulA (dVar 1) (dVar 1)) (dC (.int 7919)))))))
noncomputable def fV__law_cell_at : FN := fnV 2 b__law_cell_at
noncomputable def b__law_drawn : DS :=
 (sSeq (sSet 4 (dCall (cal fV__law_cell_at) [(dVar 0), (dVar 1)]))
 (sSeq (sSet 5 (dCell (dLst [])))
 (sSeq (sFor (iRange1 (dVar 3)) (bName 6) (sIf (dBin fEq (dBin fMod (dCall (cal fV__law_cell_at) [(dVar 0), (dC (.int 0))]) (dC (.int 2))) (dC (.int 0))) (sSeq (sAppend (dVar 5) (dBin fMod (dVar 4) (dVar 2)))
 (sSet 4 (dBin fDiv (dVar 4) (dVar 2)))) (sSeq (sSet 4 (dBin fMod (dBin fMulA (dBin fAdd (dBin fMod (dVar 4) (dC (.int 2147483647))) (dC (.int 1))) (dC (.int 48271))) (dC (.int 2147483647))))
 (sAppend (dVar 5) (dBin fMod (dBin fDiv (dBin fMod (dBin fAdd (dBin fMulA (dVar 4) (dC (.int 69621))) (dBin fMulA (dVar 6) (dC (.int 16807)))) (dC (.int 2147483629))) (dC (.int 11))) (dVar 2))))))
 (sRet (dVar 5)))))
noncomputable def fV__law_drawn : FN := fnV 7 b__law_drawn
noncomputable def b__law_rule (self__law_rule : FN) : DS :=
 (sSeq (sSet 3 (dIdx (dVar 0) (dBin fMod (dIdx (dVar 1) (dC (.int 0))) (dLen (dVar 0)))))
 (sSeq (sSetItem 1 (dC (.int 0)) (dBin fAdd (dIdx (dVar 1) (dC (.int 0))) (dC (.int 1))))
 (sSeq (sIf (dOr (dBin fEq (dVar 2) (dC (.int 0))) (dOr (dBin fLt (dIdx (dVar 1) (dC (.int 1))) (dC (.int 1))) (dBin fEq (dBin fMod (dVar 3) (dC (.int 4))) (dC (.int 0))))) (sRet (dTup [(dC (.str "hand")), (dBin fMod (dBin fDiv (dVar 3) (dC (.int 4))) (dC (.int 10)))])) sNil)
 (sSeq (sSet 4 (dBin fAdd (dC (.int 1)) (dBin fMin (dIdx (dVar 1) (dC (.int 1))) (dBin fMod (dBin fDiv (dVar 3) (dC (.int 40))) (dC (.int 10))))))
 (sSeq (sSetItem 1 (dC (.int 1)) (dBin fAdd (dBin fSub (dIdx (dVar 1) (dC (.int 1))) (dVar 4)) (dC (.int 1))))
 (sSeq (sSet 5 (dBin fAdd (dC (.int 1)) (dBin fMod (dBin fDiv (dVar 3) (dC (.int 400))) (dVar 4))))
 (sRet (dTup [(dC (.str "some")), (dVar 5), (dUn fTuple (dComp (iRange1 (dVar 4)) [none, some 0, some 1, some 2] (bName 0) (dC (.bl true)) (dCall (cal self__law_rule) [(dVar 1), (dVar 2), (dBin fSub (dVar 3) (dC (.int 1)))])))]))))))))
noncomputable def fV__law_rule : Nat → FN
 | 0 => fun _ _ => .bad
 | n + 1 => fnV 6 (b__law_rule (fV__law_rule n))
noncomputable def b__law_drawn_rule : DS :=
 (sSeq (sSet 2 (dCall (cal fV__law_drawn) [(dVar 0), (dVar 1), (dC (.int 4000)), (dC (.int 24))]))
 (sRet (dCall (cal (fV__law_rule 8)) [(dVar 2), (dCell (dLst [(dC (.int 0)), (dC (.int 19))])), (dIdx (dLst [(dC (.int 1)), (dC (.int 2)), (dC (.int 5)), (dC (.int 3)), (dC (.int 5)), (dC (.int 4))]) (dBin fMod (dCall (cal fV__law_cell_at) [(dVar 0), (dBin fAdd (dVar 1) (dC (.int 1)))]) (dC (.int 6))))])))
noncomputable def fV__law_drawn_rule : FN := fnV 3 b__law_drawn_rule
noncomputable def b__law_text (self__law_text : FN) : DS :=
 (sSeq (sIf (dBin fEq (dIdx (dVar 0) (dC (.int 0))) (dC (.str "hand"))) (sRet (dIdx (dC (.str "abcdefghij")) (dIdx (dVar 0) (dC (.int 1))))) sNil)
 (sSeq (sSet 1 (dMeth joinT (dC (.str ", ")) (dComp (iSeq (dIdx (dVar 0) (dC (.int 2)))) [none] (bName 0) (dC (.bl true)) (dCall (cal self__law_text) [(dVar 0)]))))
 (sSeq (sIf (dBin fEq (dIdx (dVar 0) (dC (.int 1))) (dLen (dIdx (dVar 0) (dC (.int 2))))) (sRet (dBin fAdd (dBin fAdd (dC (.str "all (")) (dVar 1)) (dC (.str ")")))) sNil)
 (sSeq (sIf (dBin fEq (dIdx (dVar 0) (dC (.int 1))) (dC (.int 1))) (sRet (dBin fAdd (dBin fAdd (dC (.str "one (")) (dVar 1)) (dC (.str ")")))) sNil)
 (sRet (dBin fAdd (dBin fAdd (dBin fAdd (dUn fStr (dIdx (dVar 0) (dC (.int 1)))) (dC (.str " of ("))) (dVar 1)) (dC (.str ")"))))))))
noncomputable def fV__law_text : Nat → FN
 | 0 => fun _ _ => .bad
 | n + 1 => fnV 2 (b__law_text (fV__law_text n))
noncomputable def b__law_hands : DS :=
 (sRet (dComp (iRange1 (dC (.int 10))) [none, some 0] (bName 0) (dBin fEq (dBin fBandA (dBin fShr (dVar 1) (dVar 0)) (dC (.int 1))) (dC (.int 1))) (dVar 0)))
noncomputable def fV__law_hands : FN := fnV 1 b__law_hands
noncomputable def b_law : DS :=
 (sSeq (sFor (iRange1 (dC (.int 3))) (bName 1) (sSeq (sSet 2 (dCall (cal fV__law_drawn_rule) [(dVar 0), (dBin fAdd (dC (.int 1)) (dBin fMulA (dC (.int 2)) (dVar 1)))]))
 (sSeq (sSet 3 (dUn (replT " of (" "(") (dUn (replT "one (" "(") (dUn (replT "all (" "(") (dCall (cal (fV__law_text 8)) [(dVar 2)])))))
 (sSeq (sSet 4 (dComp (iRange1 (dC (.int 10))) [none, some 3] (bName 0) (dBin fInS (dIdx (dC (.str "abcdefghij")) (dVar 0)) (dVar 1)) (dVar 0)))
 (sSeq (sSet 5 (dCall (cal fD_hands_in) [(dVar 2)]))
 (sSeq (sIf (dOr (dNot (dIs .list (dVar 5))) (dOr (dBin fNe (dVar 5) (dVar 4)) (dBin fIn (dC (.bl true)) (dComp (iSeq (dVar 5)) [none] (bName 0) (dC (.bl true)) (dIs .bool (dVar 0)))))) (sRet (dC (.bl false))) sNil)
 (sSeq (sAppend (dVar 5) (dC (.int 0)))
 (sSeq (sIf (dBin fNe (dCall (cal fV_hands_in) [(dVar 2)]) (dVar 4)) (sRet (dC (.bl false))) sNil)
 (sFor (iSeq (dCall (cal fV__law_drawn) [(dVar 0), (dBin fAdd (dC (.int 7)) (dVar 1)), (dC (.int 1024)), (dC (.int 6))])) (bName 6) (sSeq (sSet 7 (dCall (cal fV__law_hands) [(dVar 6)]))
 (sIf (dBin fNe (dCall (cal (fV_fits 8)) [(dVar 2), (dVar 7)]) (dCall (cal (fV_fits 8)) [(dVar 2), (dComp (iSeq (dVar 7)) [none, some 4] (bName 0) (dBin fIn (dVar 0) (dVar 1)) (dVar 0))])) (sRet (dC (.bl false))) sNil)))))))))))
 (sRet (dC (.bl true))))
noncomputable def fV_law : FN := fnV 8 b_law
end Fw.k14
section
set_option maxHeartbeats 4000000
namespace Fw.k14
open PySem L2 Fw
seal Fw.CE Fw.CT Fw.CA Fw.CS Fw.CSs Fw.CI Fw.CB Fw.CF Fw.CW Fw.CO L2.PIfs Fw.CEp Fw.CEh Fw.CAp Fw.CSp Fw.CSh Fw.CSsh
noncomputable def top (i : Nat) : Stmt := PySem.Challenge.pw_fewopen_k14_hands_of_rules.main.body.getD i (.Pass ⟨0, 0, 0, 0⟩)
noncomputable abbrev s_is_hand : Stmt := top 1
noncomputable abbrev s_fits : Stmt := top 2
noncomputable abbrev s_hands_written : Stmt := top 3
noncomputable abbrev s_hands_in : Stmt := top 4
noncomputable abbrev s__law_cell_at : Stmt := top 6
noncomputable abbrev s__law_drawn : Stmt := top 7
noncomputable abbrev s__law_rule : Stmt := top 8
noncomputable abbrev s__law_drawn_rule : Stmt := top 9
noncomputable abbrev s__law_text : Stmt := top 10
noncomputable abbrev s__law_hands : Stmt := top 12
noncomputable abbrev s_law : Stmt := top 13
structure Tx (K : PySem.W.Frag) (mg : Str → Option Value) : Prop where
 n_bool : mg "bool" = none
 n_isinstance : mg "isinstance" = none
 n_len : mg "len" = none
 n_list : mg "list" = none
 n_min : mg "min" = none
 n_range : mg "range" = none
 n_set : mg "set" = none
 n_sorted : mg "sorted" = none
 n_str : mg "str" = none
 n_tuple : mg "tuple" = none
noncomputable abbrev n0 : List Str := ["inner", "hands"]
noncomputable abbrev n1 : List Str := ["rule", "hands"]
noncomputable abbrev n2 : List Str := ["_law_j", "_law_row", "_law_state", "_law_deep"]
noncomputable abbrev n3 : List Str := ["_law_row", "_law_state", "_law_deep", "_law_one", "_law_size", "_law_k"]
noncomputable abbrev n4 : List Str := ["_law_one"]
noncomputable abbrev n5 : List Str := ["_law_rule_here", "_law_inner"]
noncomputable abbrev n6 : List Str := ["_law_hand", "_law_cell"]
noncomputable abbrev n7 : List Str := ["_law_cell"]
noncomputable abbrev n8 : List Str := ["_law_hand", "_law_signs"]
noncomputable abbrev n9 : List Str := ["_law_script", "_law_k", "_law_rule_here", "_law_signs", "_law_due", "_law_found", "_law_bits", "_law_hands_here"]
noncomputable abbrev n10 : List Str := ["_law_hand"]
noncomputable abbrev n11 : List Str := ["_law_hand", "_law_due"]
noncomputable abbrev n12 : List Str := ["rule"]
noncomputable abbrev n13 : List Str := ["rule", "hands", "inner"]
noncomputable abbrev n14 : List Str := ["_law_script", "_law_k"]
noncomputable abbrev n15 : List Str := ["_law_script", "_law_at", "_law_base", "_law_many", "_law_number", "_law_found", "_law_k"]
noncomputable abbrev n16 : List Str := ["_law_script", "_law_at", "_law_base", "_law_many"]
noncomputable abbrev n17 : List Str := ["_law_row", "_law_state", "_law_deep"]
noncomputable abbrev n18 : List Str := ["_law_script", "_law_at", "_law_row"]
noncomputable abbrev n19 : List Str := ["_law_script", "_law_at"]
noncomputable abbrev n20 : List Str := ["_law_rule_here"]
noncomputable abbrev n21 : List Str := ["_law_script"]
section
variable {P : Program} {w : World} {K : PySem.W.Frag} {mg : Str → Option Value} {base : Heap}
theorem sc_is_hand : FnScope n12 n12 (defScope s_is_hand) := ⟨rfl, rfl, rfl, by decide +kernel, rfl, by decide +kernel, by decide +kernel⟩
theorem okV_is_hand {a_is_hand : Addr} {d_is_hand : FuncData} (T : Tx K mg) (g_is_hand : Gf K mg "is_hand" s_is_hand n12 a_is_hand d_is_hand) :
  FnOk P w K mg base CX0 1 a_is_hand d_is_hand n12 (spD K fV_is_hand 1) :=
 fn_ok .V g_is_hand.F sc_is_hand fun cdv A outer s H E hr => (css_one (cs_ret (ce_eq hr (ce_idx (ce_var 0) ce_int) ce_str)))
theorem sc_fits : FnScope n1 n1 (defScope s_fits) := ⟨rfl, rfl, rfl, by decide +kernel, rfl, by decide +kernel, by decide +kernel⟩
theorem okR_fits {a_fits : Addr} {d_fits : FuncData} (T : Tx K mg) (g_fits : Gf K mg "fits" s_fits n1 a_fits d_fits)
  {a_is_hand : Addr} {d_is_hand : FuncData} (g_is_hand : Gf K mg "is_hand" s_is_hand n12 a_is_hand d_is_hand)
  (GV_is_hand : FnOk P w K mg base CX0 1 a_is_hand d_is_hand n12 (spD K fV_is_hand 1)) :
  ∀ n, FnOk P w K mg base CX0 (1 + n) a_fits d_fits n1 (spD K (fV_fits n) 2)
 | 0 => fn_none.mono (Nat.zero_le _)
 | n + 1 => by
  have GV_fits := okR_fits T g_fits g_is_hand GV_is_hand n
  exact fn_ok .V g_fits.F sc_fits fun cdv A outer s H E hr => (css_cons (cs_if (ct_val (ce_call GV_is_hand (hr.mono (Nat.le_trans (by decide) (Nat.le_add_right 1 _))) g_is_hand.m g_is_hand.F.kp g_is_hand.b (ca_cons (ce_var 0) ca_nil))) (css_one (cs_ret (ce_in hr (ce_idx (ce_var 0) ce_int) (ce_var 1)))) css_nil)
 (css_one (cs_ret (ce_ge (ce_len T.n_len (CF.ce (cf_comp (N' := n0) rfl (compScope_of (defScope s_fits) rfl n1 rfl (by decide +kernel)) rfl (leaves_name rfl) (ci_seq (ce_idx (ce_var 0) ce_int)) (fun _ _ _ _ _ => (cb_name 0 (show n0.Nodup by decide +kernel))) (fun _ _ _ _ _ => (pifs_test (ct_val (ce_call GV_fits hr g_fits.m g_fits.F.kp g_fits.b (ca_cons (ce_var 0) (ca_cons (ce_var 1) ca_nil)))))) (fun _ _ _ _ _ => (ce_var 0))))) (ce_idx (ce_var 0) ce_int)))))
theorem sc_hands_written : FnScope n13 n12 (defScope s_hands_written) := ⟨rfl, rfl, rfl, by decide +kernel, rfl, by decide +kernel, by decide +kernel⟩
theorem okR_hands_written {a_hands_written : Addr} {d_hands_written : FuncData} (T : Tx K mg) (g_hands_written : Gf K mg "hands_written" s_hands_written n12 a_hands_written d_hands_written)
  {a_is_hand : Addr} {d_is_hand : FuncData} (g_is_hand : Gf K mg "is_hand" s_is_hand n12 a_is_hand d_is_hand)
  (GV_is_hand : FnOk P w K mg base CX0 1 a_is_hand d_is_hand n12 (spD K fV_is_hand 1)) :
  ∀ n, FnOk P w K mg base CX0 (1 + n) a_hands_written d_hands_written n12 (spD K (fV_hands_written n) 1)
 | 0 => fn_none.mono (Nat.zero_le _)
 | n + 1 => by
  have GV_hands_written := okR_hands_written T g_hands_written g_is_hand GV_is_hand n
  exact fn_ok .V g_hands_written.F sc_hands_written fun cdv A outer s H E hr => (css_cons (cs_if (ct_val (ce_call GV_is_hand (hr.mono (Nat.le_trans (by decide) (Nat.le_add_right 1 _))) g_is_hand.m g_is_hand.F.kp g_is_hand.b (ca_cons (ce_var 0) ca_nil))) (css_one (cs_ret (CF.ce (cf_lst (ca_cons (ce_idx (ce_var 0) ce_int) ca_nil))))) css_nil)
 (css_cons (cs_set 1 sc_hands_written.nd (CF.cell (cf_lst ca_nil)))
 (css_cons (cs_for PassesOwn.never rfl (ci_seq (ce_idx (ce_var 0) ce_int)) (cb_name 2 sc_hands_written.nd) (css_one (cs_extendV (ce_var 1) (ce_call GV_hands_written hr g_hands_written.m g_hands_written.F.kp g_hands_written.b (ca_cons (ce_var 2) ca_nil)))))
 (css_one (cs_ret (ce_var 1))))))
theorem sc_hands_in : FnScope n12 n12 (defScope s_hands_in) := ⟨rfl, rfl, rfl, by decide +kernel, rfl, by decide +kernel, by decide +kernel⟩
theorem okD_hands_in {a_hands_in : Addr} {d_hands_in : FuncData} (T : Tx K mg) (g_hands_in : Gf K mg "hands_in" s_hands_in n12 a_hands_in d_hands_in)
  {a_hands_written : Addr} {d_hands_written : FuncData} (g_hands_written : Gf K mg "hands_written" s_hands_written n12 a_hands_written d_hands_written)
  (GV_hands_written : FnOk P w K mg base CX0 9 a_hands_written d_hands_written n12 (spD K (fV_hands_written 8) 1)) :
  FnOk P w K mg base CX0 10 a_hands_in d_hands_in n12 (spD K fD_hands_in 1) :=
 fn_ok .D g_hands_in.F sc_hands_in fun cdv A outer s H E hr => (css_one (cs_ret (CF.cell (cf_sortedSet T.n_sorted T.n_set (ce_call GV_hands_written (hr.mono (by decide)) g_hands_written.m g_hands_written.F.kp g_hands_written.b (ca_cons (ce_var 0) ca_nil))))))
theorem okV_hands_in {a_hands_in : Addr} {d_hands_in : FuncData} (T : Tx K mg) (g_hands_in : Gf K mg "hands_in" s_hands_in n12 a_hands_in d_hands_in)
  {a_hands_written : Addr} {d_hands_written : FuncData} (g_hands_written : Gf K mg "hands_written" s_hands_written n12 a_hands_written d_hands_written)
  (GV_hands_written : FnOk P w K mg base CX0 9 a_hands_written d_hands_written n12 (spD K (fV_hands_written 8) 1)) :
  FnOk P w K mg base CX0 10 a_hands_in d_hands_in n12 (spD K fV_hands_in 1) :=
 fn_ok .V g_hands_in.F sc_hands_in fun cdv A outer s H E hr => (css_one (cs_ret (CF.cell (cf_sortedSet T.n_sorted T.n_set (ce_call GV_hands_written (hr.mono (by decide)) g_hands_written.m g_hands_written.F.kp g_hands_written.b (ca_cons (ce_var 0) ca_nil))))))
theorem sc__law_cell_at : FnScope n14 n14 (defScope s__law_cell_at) := ⟨rfl, rfl, rfl, by decide +kernel, rfl, by decide +kernel, by decide +kernel⟩
theorem okV__law_cell_at {a__law_cell_at : Addr} {d__law_cell_at : FuncData} (T : Tx K mg) (g__law_cell_at : Gf K mg "_law_cell_at" s__law_cell_at n14 a__law_cell_at d__law_cell_at) :
  FnOk P w K mg base CX0 1 a__law_cell_at d__law_cell_at n14 (spD K fV__law_cell_at 2) :=
 fn_ok .V g__law_cell_at.F sc__law_cell_at fun cdv A outer s H E hr => (css_cons (cs_if (ct_lt (ce_var 1) (ce_len T.n_len (ce_var 0))) (css_one (cs_ret (ce_idx (ce_var 0) (ce_var 1)))) css_nil)
 (css_cons (cs_if (ct_eq hr (ce_len T.n_len (ce_var 0)) ce_int) (css_one (cs_ret (ce_add (ce_mul (ce_mul (ce_var 1) (ce_var 1)) ce_int) (ce_mul ce_int (ce_var 1))))) css_nil)
 (css_one (cs_ret (ce_add (ce_div (ce_idx (ce_var 0) (ce_mod (ce_var 1) (ce_len T.n_len (ce_var 0)))) (ce_add ce_int (ce_div (ce_var 1) (ce_len T.n_len (ce_var 0))))) (ce_mul (ce_mul (ce_var 1) (ce_var 1)) ce_int))))))
theorem sc__law_drawn : FnScope n15 n16 (defScope s__law_drawn) := ⟨rfl, rfl, rfl, by decide +kernel, rfl, by decide +kernel, by decide +kernel⟩
theorem okV__law_drawn {a__law_drawn : Addr} {d__law_drawn : FuncData} (T : Tx K mg) (g__law_drawn : Gf K mg "_law_drawn" s__law_drawn n16 a__law_drawn d__law_drawn)
  {a__law_cell_at : Addr} {d__law_cell_at : FuncData} (g__law_cell_at : Gf K mg "_law_cell_at" s__law_cell_at n14 a__law_cell_at d__law_cell_at)
  (GV__law_cell_at : FnOk P w K mg base CX0 1 a__law_cell_at d__law_cell_at n14 (spD K fV__law_cell_at 2)) :
  FnOk P w K mg base CX0 2 a__law_drawn d__law_drawn n16 (spD K fV__law_drawn 4) :=
 fn_ok .V g__law_drawn.F sc__law_drawn fun cdv A outer s H E hr => (css_cons (cs_set 4 sc__law_drawn.nd (ce_call GV__law_cell_at (hr.mono (by decide)) g__law_cell_at.m g__law_cell_at.F.kp g__law_cell_at.b (ca_cons (ce_var 0) (ca_cons (ce_var 1) ca_nil))))
 (css_cons (cs_set 5 sc__law_drawn.nd (CF.cell (cf_lst ca_nil)))
 (css_cons (cs_for PassesOwn.never rfl (ci_range1 T.n_range (ce_var 3)) (cb_name 6 sc__law_drawn.nd) (css_one (cs_if (ct_eq hr (ce_mod (ce_call GV__law_cell_at (hr.mono (by decide)) g__law_cell_at.m g__law_cell_at.F.kp g__law_cell_at.b (ca_cons (ce_var 0) (ca_cons ce_int ca_nil))) ce_int) ce_int) (css_cons (cs_append (ce_var 5) (ce_mod (ce_var 4) (ce_var 2)))
 (css_one (cs_set 4 sc__law_drawn.nd (ce_div (ce_var 4) (ce_var 2))))) (css_cons (cs_set 4 sc__law_drawn.nd (ce_mod (ce_mul (ce_add (ce_mod (ce_var 4) ce_int) ce_int) ce_int) ce_int))
 (css_one (cs_append (ce_var 5) (ce_mod (ce_div (ce_mod (ce_add (ce_mul (ce_var 4) ce_int) (ce_mul (ce_var 6) ce_int)) ce_int) ce_int) (ce_var 2))))))))
 (css_one (cs_ret (ce_var 5))))))
theorem sc__law_rule : FnScope n3 n17 (defScope s__law_rule) := ⟨rfl, rfl, rfl, by decide +kernel, rfl, by decide +kernel, by decide +kernel⟩
theorem okR__law_rule {a__law_rule : Addr} {d__law_rule : FuncData} (T : Tx K mg) (g__law_rule : Gf K mg "_law_rule" s__law_rule n17 a__law_rule d__law_rule) :
  ∀ n, FnOk P w K mg base CX0 (0 + n) a__law_rule d__law_rule n17 (spD K (fV__law_rule n) 3)
 | 0 => fn_none.mono (Nat.zero_le _)
 | n + 1 => by
  have GV__law_rule := okR__law_rule T g__law_rule n
  exact fn_ok .V g__law_rule.F sc__law_rule fun cdv A outer s H E hr => (css_cons (cs_set 3 sc__law_rule.nd (ce_idx (ce_var 0) (ce_mod (ce_idx (ce_var 1) ce_int) (ce_len T.n_len (ce_var 0)))))
 (css_cons (cs_setItem 1 ce_int (ce_add (ce_idx (ce_var 1) ce_int) ce_int))
 (css_cons (cs_if (CW.ct (cw_or (ct_eq hr (ce_var 2) ce_int) (cw_or (ct_lt (ce_idx (ce_var 1) ce_int) ce_int) (cw_one_or (ct_eq hr (ce_mod (ce_var 3) ce_int) ce_int))))) (css_one (cs_ret (ce_tup (ca_cons ce_str (ca_cons (ce_mod (ce_div (ce_var 3) ce_int) ce_int) ca_nil)) (hl := Nat.le_of_ble_eq_true rfl)))) css_nil)
 (css_cons (cs_set 4 sc__law_rule.nd (ce_add ce_int (ce_min T.n_min (ce_idx (ce_var 1) ce_int) (ce_mod (ce_div (ce_var 3) ce_int) ce_int))))
 (css_cons (cs_setItem 1 ce_int (ce_add (ce_sub (ce_idx (ce_var 1) ce_int) (ce_var 4)) ce_int))
 (css_cons (cs_set 5 sc__law_rule.nd (ce_add ce_int (ce_mod (ce_div (ce_var 3) ce_int) (ce_var 4))))
 (css_one (cs_ret (ce_tup (ca_cons ce_str (ca_cons (ce_var 5) (ca_cons (ce_tuple T.n_tuple (CF.ce (cf_comp (N' := n2) rfl (compScope_of (defScope s__law_rule) rfl n3 rfl (by decide +kernel)) rfl (leaves_name rfl) (ci_range1 T.n_range (ce_var 4)) (fun _ _ _ _ _ => (cb_name 0 (show n2.Nodup by decide +kernel))) (fun _ _ _ _ _ => pifs_true) (fun _ _ _ _ _ => (ce_call GV__law_rule hr g__law_rule.m g__law_rule.F.kp g__law_rule.b (ca_cons (ce_var 1) (ca_cons (ce_var 2) (ca_cons (ce_sub (ce_var 3) ce_int) ca_nil)))))))) ca_nil))) (hl := Nat.le_of_ble_eq_true rfl))))))))))
theorem sc__law_drawn_rule : FnScope n18 n19 (defScope s__law_drawn_rule) := ⟨rfl, rfl, rfl, by decide +kernel, rfl, by decide +kernel, by decide +kernel⟩
theorem okV__law_drawn_rule {a__law_drawn_rule : Addr} {d__law_drawn_rule : FuncData} (T : Tx K mg) (g__law_drawn_rule : Gf K mg "_law_drawn_rule" s__law_drawn_rule n19 a__law_drawn_rule d__law_drawn_rule)
  {a__law_drawn : Addr} {d__law_drawn : FuncData} (g__law_drawn : Gf K mg "_law_drawn" s__law_drawn n16 a__law_drawn d__law_drawn)
  (GV__law_drawn : FnOk P w K mg base CX0 2 a__law_drawn d__law_drawn n16 (spD K fV__law_drawn 4))
  {a__law_cell_at : Addr} {d__law_cell_at : FuncData} (g__law_cell_at : Gf K mg "_law_cell_at" s__law_cell_at n14 a__law_cell_at d__law_cell_at)
  (GV__law_cell_at : FnOk P w K mg base CX0 1 a__law_cell_at d__law_cell_at n14 (spD K fV__law_cell_at 2))
  {a__law_rule : Addr} {d__law_rule : FuncData} (g__law_rule : Gf K mg "_law_rule" s__law_rule n17 a__law_rule d__law_rule)
  (GV__law_rule : FnOk P w K mg base CX0 8 a__law_rule d__law_rule n17 (spD K (fV__law_rule 8) 3)) :
  FnOk P w K mg base CX0 9 a__law_drawn_rule d__law_drawn_rule n19 (spD K fV__law_drawn_rule 2) :=
 fn_ok .V g__law_drawn_rule.F sc__law_drawn_rule fun cdv A outer s H E hr => (css_cons (cs_set 2 sc__law_drawn_rule.nd (ce_call GV__law_drawn (hr.mono (by decide)) g__law_drawn.m g__law_drawn.F.kp g__law_drawn.b (ca_cons (ce_var 0) (ca_cons (ce_var 1) (ca_cons ce_int (ca_cons ce_int ca_nil))))))
 (css_one (cs_ret (ce_call GV__law_rule (hr.mono (by decide)) g__law_rule.m g__law_rule.F.kp g__law_rule.b (ca_cons (ce_var 2) (ca_cons (CF.cell (cf_lst (ca_cons ce_int (ca_cons ce_int ca_nil)))) (ca_cons (ce_idx (CF.ce (cf_lst (ca_cons ce_int (ca_cons ce_int (ca_cons ce_int (ca_cons ce_int (ca_cons ce_int (ca_cons ce_int ca_nil)))))))) (ce_mod (ce_call GV__law_cell_at (hr.mono (by decide)) g__law_cell_at.m g__law_cell_at.F.kp g__law_cell_at.b (ca_cons (ce_var 0) (ca_cons (ce_add (ce_var 1) ce_int) ca_nil))) ce_int)) ca_nil)))))))
theorem sc__law_text : FnScope n5 n20 (defScope s__law_text) := ⟨rfl, rfl, rfl, by decide +kernel, rfl, by decide +kernel, by decide +kernel⟩
theorem okR__law_text {a__law_text : Addr} {d__law_text : FuncData} (T : Tx K mg) (g__law_text : Gf K mg "_law_text" s__law_text n20 a__law_text d__law_text) :
  ∀ n, FnOk P w K mg base CX0 (0 + n) a__law_text d__law_text n20 (spD K (fV__law_text n) 1)
 | 0 => fn_none.mono (Nat.zero_le _)
 | n + 1 => by
  have GV__law_text := okR__law_text T g__law_text n
  exact fn_ok .V g__law_text.F sc__law_text fun cdv A outer s H E hr => (css_cons (cs_if (ct_eq hr (ce_idx (ce_var 0) ce_int) ce_str) (css_one (cs_ret (ce_idx ce_str (ce_idx (ce_var 0) ce_int)))) css_nil)
 (css_cons (cs_set 1 sc__law_text.nd (ce_join ce_str (CF.ce (cf_comp (N' := n4) rfl (compScope_of (defScope s__law_text) rfl n5 rfl (by decide +kernel)) rfl (leaves_name rfl) (ci_seq (ce_idx (ce_var 0) ce_int)) (fun _ _ _ _ _ => (cb_name 0 (show n4.Nodup by decide +kernel))) (fun _ _ _ _ _ => pifs_true) (fun _ _ _ _ _ => (ce_call GV__law_text hr g__law_text.m g__law_text.F.kp g__law_text.b (ca_cons (ce_var 0) ca_nil)))))))
 (css_cons (cs_if (ct_eq hr (ce_idx (ce_var 0) ce_int) (ce_len T.n_len (ce_idx (ce_var 0) ce_int))) (css_one (cs_ret (ce_add (ce_add ce_str (ce_var 1)) ce_str))) css_nil)
 (css_cons (cs_if (ct_eq hr (ce_idx (ce_var 0) ce_int) ce_int) (css_one (cs_ret (ce_add (ce_add ce_str (ce_var 1)) ce_str))) css_nil)
 (css_one (cs_ret (ce_add (ce_add (ce_add (ce_strI T.n_str (ce_idx (ce_var 0) ce_int)) ce_str) (ce_var 1)) ce_str)))))))
theorem sc__law_hands : FnScope n7 n7 (defScope s__law_hands) := ⟨rfl, rfl, rfl, by decide +kernel, rfl, by decide +kernel, by decide +kernel⟩
theorem okV__law_hands {a__law_hands : Addr} {d__law_hands : FuncData} (T : Tx K mg) (g__law_hands : Gf K mg "_law_hands" s__law_hands n7 a__law_hands d__law_hands) :
  FnOk P w K mg base CX0 1 a__law_hands d__law_hands n7 (spD K fV__law_hands 1) :=
 fn_ok .V g__law_hands.F sc__law_hands fun cdv A outer s H E hr => (css_one (cs_ret (CF.ce (cf_comp (N' := n6) rfl (compScope_of (defScope s__law_hands) rfl n7 rfl (by decide +kernel)) rfl (leaves_name rfl) (ci_range1 T.n_range ce_int) (fun _ _ _ _ _ => (cb_name 0 (show n6.Nodup by decide +kernel))) (fun _ _ _ _ _ => (pifs_test (ct_eq hr (ce_bandA (ce_shr (ce_var 1) (ce_var 0)) ce_int) ce_int))) (fun _ _ _ _ _ => (ce_var 0))))))
theorem sc_law : FnScope n9 n21 (defScope s_law) := ⟨rfl, rfl, rfl, by decide +kernel, rfl, by decide +kernel, by decide +kernel⟩
theorem okV_law {a_law : Addr} {d_law : FuncData} (T : Tx K mg) (g_law : Gf K mg "law" s_law n21 a_law d_law)
  {a__law_drawn_rule : Addr} {d__law_drawn_rule : FuncData} (g__law_drawn_rule : Gf K mg "_law_drawn_rule" s__law_drawn_rule n19 a__law_drawn_rule d__law_drawn_rule)
  (GV__law_drawn_rule : FnOk P w K mg base CX0 9 a__law_drawn_rule d__law_drawn_rule n19 (spD K fV__law_drawn_rule 2))
  {a__law_text : Addr} {d__law_text : FuncData} (g__law_text : Gf K mg "_law_text" s__law_text n20 a__law_text d__law_text)
  (GV__law_text : FnOk P w K mg base CX0 8 a__law_text d__law_text n20 (spD K (fV__law_text 8) 1))
  {a_hands_in : Addr} {d_hands_in : FuncData} (g_hands_in : Gf K mg "hands_in" s_hands_in n12 a_hands_in d_hands_in)
  (GD_hands_in : FnOk P w K mg base CX0 10 a_hands_in d_hands_in n12 (spD K fD_hands_in 1))
  (GV_hands_in : FnOk P w K mg base CX0 10 a_hands_in d_hands_in n12 (spD K fV_hands_in 1))
  {a__law_drawn : Addr} {d__law_drawn : FuncData} (g__law_drawn : Gf K mg "_law_drawn" s__law_drawn n16 a__law_drawn d__law_drawn)
  (GV__law_drawn : FnOk P w K mg base CX0 2 a__law_drawn d__law_drawn n16 (spD K fV__law_drawn 4))
  {a__law_hands : Addr} {d__law_hands : FuncData} (g__law_hands : Gf K mg "_law_hands" s__law_hands n7 a__law_hands d__law_hands)
  (GV__law_hands : FnOk P w K mg base CX0 1 a__law_hands d__law_hands n7 (spD K fV__law_hands 1))
  {a_fits : Addr} {d_fits : FuncData} (g_fits : Gf K mg "fits" s_fits n1 a_fits d_fits)
  (GV_fits : FnOk P w K mg base CX0 9 a_fits d_fits n1 (spD K (fV_fits 8) 2)) :
  FnOk P w K mg base CX0 11 a_law d_law n21 (spD K fV_law 1) :=
 fn_ok .V g_law.F sc_law fun cdv A outer s H E hr => (css_cons (cs_for PassesOwn.never rfl (ci_range1 T.n_range ce_int) (cb_name 1 sc_law.nd) (cssp_cons (csp_set 2 sc_law.nd (cep_call GV__law_drawn_rule (hr.mono (by decide)) g__law_drawn_rule.m g__law_drawn_rule.F.kp g__law_drawn_rule.b (cap_r (ce_var 0) (cap_l (cep_add cep_int (ce_mul ce_int (ce_var 1))) ca_nil))))
 (cssh_cons (csh_set 3 sc_law.nd (ceh_repl (by decide +kernel) (ceh_repl (by decide +kernel) (ceh_repl (by decide +kernel) (ceh_of (ce_call GV__law_text (hr.mono (by decide)) g__law_text.m g__law_text.F.kp g__law_text.b (ca_cons (ce_var 2) ca_nil)))))))
 (css_cons (cs_set 4 sc_law.nd (CF.ce (cf_comp (N' := n8) rfl (compScope_of (defScope s_law) rfl n9 rfl (by decide +kernel)) rfl (leaves_name rfl) (ci_range1 T.n_range ce_int) (fun _ _ _ _ _ => (cb_name 0 (show n8.Nodup by decide +kernel))) (fun _ _ _ _ _ => (pifs_test (ct_inS (ce_idx ce_str (ce_var 0)) (ce_var 1)))) (fun _ _ _ _ _ => (ce_var 0)))))
 (css_cons (cs_set 5 sc_law.nd (ce_call GD_hands_in (hr.mono (by decide)) g_hands_in.m g_hands_in.F.kp g_hands_in.b (ca_cons (ce_var 2) ca_nil)))
 (css_cons (cs_if (CW.ct (cw_or (ct_not (ct_val (ce_is_list T.n_isinstance T.n_list (ce_var 5)))) (cw_or (ct_ne hr (ce_var 5) (ce_var 4)) (cw_one_or (ct_in hr ce_bl (CF.ce (cf_comp (N' := n10) rfl (compScope_of (defScope s_law) rfl n9 rfl (by decide +kernel)) rfl (leaves_name rfl) (ci_seq (ce_var 5)) (fun _ _ _ _ _ => (cb_name 0 (show n10.Nodup by decide +kernel))) (fun _ _ _ _ _ => pifs_true) (fun _ _ _ _ _ => (ce_is_bool T.n_isinstance T.n_bool (ce_var 0)))))))))) (css_one (cs_ret ce_bl)) css_nil)
 (css_cons (cs_append (ce_var 5) ce_int)
 (css_cons (cs_if (ct_ne hr (ce_call GV_hands_in (hr.mono (by decide)) g_hands_in.m g_hands_in.F.kp g_hands_in.b (ca_cons (ce_var 2) ca_nil)) (ce_var 4)) (css_one (cs_ret ce_bl)) css_nil)
 (css_one (cs_for PassesOwn.never rfl (ci_seq (ce_call GV__law_drawn (hr.mono (by decide)) g__law_drawn.m g__law_drawn.F.kp g__law_drawn.b (ca_cons (ce_var 0) (ca_cons (ce_add ce_int (ce_var 1)) (ca_cons ce_int (ca_cons ce_int ca_nil)))))) (cb_name 6 sc_law.nd) (css_cons (cs_set 7 sc_law.nd (ce_call GV__law_hands (hr.mono (by decide)) g__law_hands.m g__law_hands.F.kp g__law_hands.b (ca_cons (ce_var 6) ca_nil)))
 (css_one (cs_if (ct_ne hr (ce_call GV_fits (hr.mono (by decide)) g_fits.m g_fits.F.kp g_fits.b (ca_cons (ce_var 2) (ca_cons (ce_var 7) ca_nil))) (ce_call GV_fits (hr.mono (by decide)) g_fits.m g_fits.F.kp g_fits.b (ca_cons (ce_var 2) (ca_cons (CF.ce (cf_comp (N' := n11) rfl (compScope_of (defScope s_law) rfl n9 rfl (by decide +kernel)) rfl (leaves_name rfl) (ci_seq (ce_var 7)) (fun _ _ _ _ _ => (cb_name 0 (show n11.Nodup by decide +kernel))) (fun _ _ _ _ _ => (pifs_test (ct_in hr (ce_var 0) (ce_var 1)))) (fun _ _ _ _ _ => (ce_var 0)))) ca_nil)))) (css_one (cs_ret ce_bl)) css_nil)))))))))))))
 (css_one (cs_ret ce_bl)))
theorem us1 {us : List Value} (h : us.length = 1) : ∃ a0, us = [a0] := by
 obtain ⟨a0, us, rfl⟩ := us_cons h; rw [List.length_cons] at h; replace h := Nat.succ.inj h; cases List.eq_nil_of_length_eq_zero h; exact ⟨_, rfl⟩
theorem us2 {us : List Value} (h : us.length = 2) : ∃ a0 a1, us = [a0, a1] := by
 obtain ⟨a0, us, rfl⟩ := us_cons h; rw [List.length_cons] at h; replace h := Nat.succ.inj h; obtain ⟨a1, us, rfl⟩ := us_cons h; rw [List.length_cons] at h; replace h := Nat.succ.inj h; cases List.eq_nil_of_length_eq_zero h; exact ⟨_, _, rfl⟩
theorem us3 {us : List Value} (h : us.length = 3) : ∃ a0 a1 a2, us = [a0, a1, a2] := by
 obtain ⟨a0, us, rfl⟩ := us_cons h; rw [List.length_cons] at h; replace h := Nat.succ.inj h; obtain ⟨a1, us, rfl⟩ := us_cons h; rw [List.length_cons] at h; replace h := Nat.succ.inj h; obtain ⟨a2, us, rfl⟩ := us_cons h; rw [List.length_cons] at h; replace h := Nat.succ.inj h; cases List.eq_nil_of_length_eq_zero h; exact ⟨_, _, _, rfl⟩
theorem us4 {us : List Value} (h : us.length = 4) : ∃ a0 a1 a2 a3, us = [a0, a1, a2, a3] := by
 obtain ⟨a0, us, rfl⟩ := us_cons h; rw [List.length_cons] at h; replace h := Nat.succ.inj h; obtain ⟨a1, us, rfl⟩ := us_cons h; rw [List.length_cons] at h; replace h := Nat.succ.inj h; obtain ⟨a2, us, rfl⟩ := us_cons h; rw [List.length_cons] at h; replace h := Nat.succ.inj h; obtain ⟨a3, us, rfl⟩ := us_cons h; rw [List.length_cons] at h; replace h := Nat.succ.inj h; cases List.eq_nil_of_length_eq_zero h; exact ⟨_, _, _, _, rfl⟩
theorem all_mk {l : PySem.W.OpenLaw} {w : World} {K : PySem.W.Frag} {h : Heap} {mg : Str → Option Value} {fa : Addr} (X : K.In h) (G : h.Ns mainGlobals mg) (hfa : mg "law" = some (.ref fa))
  {f0 f1 f2 f3 f4 f5 f6 f7 f8 f9 f10 : Addr} {od0 an0 od1 an1 od2 an2 od3 an3 od4 an4 od5 an5 od6 an6 od7 an7 od8 an8 od9 an9 od10 an10 : Option Addr} {sl0 sl1 sl2 sl3 sl4 sl5 sl6 sl7 sl8 sl9 sl10 : Array (Option Value)} {oc0 kV0 dc0 pm0 cd0 ct0 oc1 kV1 dc1 pm1 cd1 ct1 oc2 kV2 dc2 pm2 cd2 ct2 oc3 kV3 dc3 pm3 cd3 ct3 oc4 kV4 dc4 pm4 cd4 ct4 oc5 kV5 dc5 pm5 cd5 ct5 oc6 kV6 dc6 pm6 cd6 ct6 oc7 kV7 dc7 pm7 cd7 ct7 oc8 kV8 dc8 pm8 cd8 ct8 oc9 kV9 dc9 pm9 cd9 ct9 oc10 kV10 dc10 pm10 cd10 ct10 : Value}
  (a0 : PySem.W.nsIn K mainGlobals "is_hand" = some (some (.ref f0))) (l0 : K.lookup f0 = some ⟨oc0, od0, .func (PySem.W.fnOf "is_hand" "is_hand" (defArgs s_is_hand) (defBody s_is_hand) (defScope s_is_hand) .none kV0 dc0 pm0 an0 cd0 ct0), sl0⟩) (c0 : PySem.W.codeIn K cd0 "is_hand" = true) (k0 : PySem.W.keepIn K (.ref f0) = true)
  (a1 : PySem.W.nsIn K mainGlobals "fits" = some (some (.ref f1))) (l1 : K.lookup f1 = some ⟨oc1, od1, .func (PySem.W.fnOf "fits" "fits" (defArgs s_fits) (defBody s_fits) (defScope s_fits) .none kV1 dc1 pm1 an1 cd1 ct1), sl1⟩) (c1 : PySem.W.codeIn K cd1 "fits" = true) (k1 : PySem.W.keepIn K (.ref f1) = true)
  (a2 : PySem.W.nsIn K mainGlobals "hands_written" = some (some (.ref f2))) (l2 : K.lookup f2 = some ⟨oc2, od2, .func (PySem.W.fnOf "hands_written" "hands_written" (defArgs s_hands_written) (defBody s_hands_written) (defScope s_hands_written) .none kV2 dc2 pm2 an2 cd2 ct2), sl2⟩) (c2 : PySem.W.codeIn K cd2 "hands_written" = true) (k2 : PySem.W.keepIn K (.ref f2) = true)
  (a3 : PySem.W.nsIn K mainGlobals "hands_in" = some (some (.ref f3))) (l3 : K.lookup f3 = some ⟨oc3, od3, .func (PySem.W.fnOf "hands_in" "hands_in" (defArgs s_hands_in) (defBody s_hands_in) (defScope s_hands_in) .none kV3 dc3 pm3 an3 cd3 ct3), sl3⟩) (c3 : PySem.W.codeIn K cd3 "hands_in" = true) (k3 : PySem.W.keepIn K (.ref f3) = true)
  (a4 : PySem.W.nsIn K mainGlobals "_law_cell_at" = some (some (.ref f4))) (l4 : K.lookup f4 = some ⟨oc4, od4, .func (PySem.W.fnOf "_law_cell_at" "_law_cell_at" (defArgs s__law_cell_at) (defBody s__law_cell_at) (defScope s__law_cell_at) .none kV4 dc4 pm4 an4 cd4 ct4), sl4⟩) (c4 : PySem.W.codeIn K cd4 "_law_cell_at" = true) (k4 : PySem.W.keepIn K (.ref f4) = true)
  (a5 : PySem.W.nsIn K mainGlobals "_law_drawn" = some (some (.ref f5))) (l5 : K.lookup f5 = some ⟨oc5, od5, .func (PySem.W.fnOf "_law_drawn" "_law_drawn" (defArgs s__law_drawn) (defBody s__law_drawn) (defScope s__law_drawn) .none kV5 dc5 pm5 an5 cd5 ct5), sl5⟩) (c5 : PySem.W.codeIn K cd5 "_law_drawn" = true) (k5 : PySem.W.keepIn K (.ref f5) = true)
  (a6 : PySem.W.nsIn K mainGlobals "_law_rule" = some (some (.ref f6))) (l6 : K.lookup f6 = some ⟨oc6, od6, .func (PySem.W.fnOf "_law_rule" "_law_rule" (defArgs s__law_rule) (defBody s__law_rule) (defScope s__law_rule) .none kV6 dc6 pm6 an6 cd6 ct6), sl6⟩) (c6 : PySem.W.codeIn K cd6 "_law_rule" = true) (k6 : PySem.W.keepIn K (.ref f6) = true)
  (a7 : PySem.W.nsIn K mainGlobals "_law_drawn_rule" = some (some (.ref f7))) (l7 : K.lookup f7 = some ⟨oc7, od7, .func (PySem.W.fnOf "_law_drawn_rule" "_law_drawn_rule" (defArgs s__law_drawn_rule) (defBody s__law_drawn_rule) (defScope s__law_drawn_rule) .none kV7 dc7 pm7 an7 cd7 ct7), sl7⟩) (c7 : PySem.W.codeIn K cd7 "_law_drawn_rule" = true) (k7 : PySem.W.keepIn K (.ref f7) = true)
  (a8 : PySem.W.nsIn K mainGlobals "_law_text" = some (some (.ref f8))) (l8 : K.lookup f8 = some ⟨oc8, od8, .func (PySem.W.fnOf "_law_text" "_law_text" (defArgs s__law_text) (defBody s__law_text) (defScope s__law_text) .none kV8 dc8 pm8 an8 cd8 ct8), sl8⟩) (c8 : PySem.W.codeIn K cd8 "_law_text" = true) (k8 : PySem.W.keepIn K (.ref f8) = true)
  (a9 : PySem.W.nsIn K mainGlobals "_law_hands" = some (some (.ref f9))) (l9 : K.lookup f9 = some ⟨oc9, od9, .func (PySem.W.fnOf "_law_hands" "_law_hands" (defArgs s__law_hands) (defBody s__law_hands) (defScope s__law_hands) .none kV9 dc9 pm9 an9 cd9 ct9), sl9⟩) (c9 : PySem.W.codeIn K cd9 "_law_hands" = true) (k9 : PySem.W.keepIn K (.ref f9) = true)
  (a10 : PySem.W.nsIn K mainGlobals "law" = some (some (.ref f10))) (l10 : K.lookup f10 = some ⟨oc10, od10, .func (PySem.W.fnOf "law" "law" (defArgs s_law) (defBody s_law) (defScope s_law) .none kV10 dc10 pm10 an10 cd10 ct10), sl10⟩) (c10 : PySem.W.codeIn K cd10 "law" = true) (k10 : PySem.W.keepIn K (.ref f10) = true)
  (z0 : PySem.W.nsIn K mainGlobals "bool" = some none)
  (z1 : PySem.W.nsIn K mainGlobals "isinstance" = some none)
  (z2 : PySem.W.nsIn K mainGlobals "len" = some none)
  (z3 : PySem.W.nsIn K mainGlobals "list" = some none)
  (z4 : PySem.W.nsIn K mainGlobals "min" = some none)
  (z5 : PySem.W.nsIn K mainGlobals "range" = some none)
  (z6 : PySem.W.nsIn K mainGlobals "set" = some none)
  (z7 : PySem.W.nsIn K mainGlobals "sorted" = some none)
  (z8 : PySem.W.nsIn K mainGlobals "str" = some none)
  (z9 : PySem.W.nsIn K mainGlobals "tuple" = some none)
  : ∃ fd : FuncData, (∀ (s : Shared) (v : Value), BindsTo s fd ⟨[v], []⟩ [("_law_script", v)]) ∧ ∀ base : Heap, K.In base → base.Ns mainGlobals mg → FnOk l.prog w K mg base CX0 11 fa fd ["_law_script"] (spD K fV_law 1) := by
 have e := hfa.symm.trans (PySem.W.mg_of X G a10)
 cases e
 have T : Tx K mg := ⟨PySem.W.mg_none_of X G z0, PySem.W.mg_none_of X G z1, PySem.W.mg_none_of X G z2, PySem.W.mg_none_of X G z3, PySem.W.mg_none_of X G z4, PySem.W.mg_none_of X G z5, PySem.W.mg_none_of X G z6, PySem.W.mg_none_of X G z7, PySem.W.mg_none_of X G z8, PySem.W.mg_none_of X G z9⟩
 have F0 := fun_mk (st := s_is_hand) l0 c0 k0
 have g0 : Gf K mg "is_hand" s_is_hand ["rule"] _ _ := ⟨F0, F0.binds (ps := ["rule"]) fun _ _ _ _ _ _ us hl => by obtain ⟨_, rfl⟩ := us1 hl; rfl, PySem.W.mg_of X G a0⟩
 have F1 := fun_mk (st := s_fits) l1 c1 k1
 have g1 : Gf K mg "fits" s_fits ["rule", "hands"] _ _ := ⟨F1, F1.binds (ps := ["rule", "hands"]) fun _ _ _ _ _ _ us hl => by obtain ⟨_, _, rfl⟩ := us2 hl; rfl, PySem.W.mg_of X G a1⟩
 have F2 := fun_mk (st := s_hands_written) l2 c2 k2
 have g2 : Gf K mg "hands_written" s_hands_written ["rule"] _ _ := ⟨F2, F2.binds (ps := ["rule"]) fun _ _ _ _ _ _ us hl => by obtain ⟨_, rfl⟩ := us1 hl; rfl, PySem.W.mg_of X G a2⟩
 have F3 := fun_mk (st := s_hands_in) l3 c3 k3
 have g3 : Gf K mg "hands_in" s_hands_in ["rule"] _ _ := ⟨F3, F3.binds (ps := ["rule"]) fun _ _ _ _ _ _ us hl => by obtain ⟨_, rfl⟩ := us1 hl; rfl, PySem.W.mg_of X G a3⟩
 have F4 := fun_mk (st := s__law_cell_at) l4 c4 k4
 have g4 : Gf K mg "_law_cell_at" s__law_cell_at ["_law_script", "_law_k"] _ _ := ⟨F4, F4.binds (ps := ["_law_script", "_law_k"]) fun _ _ _ _ _ _ us hl => by obtain ⟨_, _, rfl⟩ := us2 hl; rfl, PySem.W.mg_of X G a4⟩
 have F5 := fun_mk (st := s__law_drawn) l5 c5 k5
 have g5 : Gf K mg "_law_drawn" s__law_drawn ["_law_script", "_law_at", "_law_base", "_law_many"] _ _ := ⟨F5, F5.binds (ps := ["_law_script", "_law_at", "_law_base", "_law_many"]) fun _ _ _ _ _ _ us hl => by obtain ⟨_, _, _, _, rfl⟩ := us4 hl; rfl, PySem.W.mg_of X G a5⟩
 have F6 := fun_mk (st := s__law_rule) l6 c6 k6
 have g6 : Gf K mg "_law_rule" s__law_rule ["_law_row", "_law_state", "_law_deep"] _ _ := ⟨F6, F6.binds (ps := ["_law_row", "_law_state", "_law_deep"]) fun _ _ _ _ _ _ us hl => by obtain ⟨_, _, _, rfl⟩ := us3 hl; rfl, PySem.W.mg_of X G a6⟩
 have F7 := fun_mk (st := s__law_drawn_rule) l7 c7 k7
 have g7 : Gf K mg "_law_drawn_rule" s__law_drawn_rule ["_law_script", "_law_at"] _ _ := ⟨F7, F7.binds (ps := ["_law_script", "_law_at"]) fun _ _ _ _ _ _ us hl => by obtain ⟨_, _, rfl⟩ := us2 hl; rfl, PySem.W.mg_of X G a7⟩
 have F8 := fun_mk (st := s__law_text) l8 c8 k8
 have g8 : Gf K mg "_law_text" s__law_text ["_law_rule_here"] _ _ := ⟨F8, F8.binds (ps := ["_law_rule_here"]) fun _ _ _ _ _ _ us hl => by obtain ⟨_, rfl⟩ := us1 hl; rfl, PySem.W.mg_of X G a8⟩
 have F9 := fun_mk (st := s__law_hands) l9 c9 k9
 have g9 : Gf K mg "_law_hands" s__law_hands ["_law_cell"] _ _ := ⟨F9, F9.binds (ps := ["_law_cell"]) fun _ _ _ _ _ _ us hl => by obtain ⟨_, rfl⟩ := us1 hl; rfl, PySem.W.mg_of X G a9⟩
 have F10 := fun_mk (st := s_law) l10 c10 k10
 have g10 : Gf K mg "law" s_law ["_law_script"] _ _ := ⟨F10, F10.binds (ps := ["_law_script"]) fun _ _ _ _ _ _ us hl => by obtain ⟨_, rfl⟩ := us1 hl; rfl, PySem.W.mg_of X G a10⟩
 refine ⟨PySem.W.fnOf "law" "law" (defArgs s_law) (defBody s_law) (defScope s_law) .none kV10 dc10 pm10 an10 cd10 ct10, fun s v => .of_eq rfl, fun base _ _ => ?_⟩
 have oV0 := okV_is_hand (P := l.prog) (w := w) (base := base) T g0
 have oV1 := (okR_fits (P := l.prog) (w := w) (base := base) T g1 g0 oV0 8)
 have oV2 := (okR_hands_written (P := l.prog) (w := w) (base := base) T g2 g0 oV0 8)
 have oD3 := okD_hands_in (P := l.prog) (w := w) (base := base) T g3 g2 oV2
 have oV3 := okV_hands_in (P := l.prog) (w := w) (base := base) T g3 g2 oV2
 have oV4 := okV__law_cell_at (P := l.prog) (w := w) (base := base) T g4
 have oV5 := okV__law_drawn (P := l.prog) (w := w) (base := base) T g5 g4 oV4
 have oV6 := (okR__law_rule (P := l.prog) (w := w) (base := base) T g6 8)
 have oV7 := okV__law_drawn_rule (P := l.prog) (w := w) (base := base) T g7 g5 oV5 g4 oV4 g6 oV6
 have oV8 := (okR__law_text (P := l.prog) (w := w) (base := base) T g8 8)
 have oV9 := okV__law_hands (P := l.prog) (w := w) (base := base) T g9
 have oV10 := okV_law (P := l.prog) (w := w) (base := base) T g10 g7 oV7 g8 oV8 g3 oD3 oV3 g5 oV5 g9 oV9 g1 oV1
 exact oV10
end
theorem walk {l : PySem.W.OpenLaw} {q : Program} {loose : List Str} {XP : (Str → Option Value) → Heap → Prop} {YP : World → Heap → Prop} {d : DefRec} {K : Params → PySem.W.Frag} (hn : l.most = some 63) (hdf : d.params.defaults = [])
  (hlaw : ∀ ns : List Int, ns.length ≤ 63 → ∃ μ', fV_law [.val (.lst (ns.map T.int))] [] = .ok (.val (.bl true)) μ')
  (hY : ∀ (w : World) (h : Heap), YP w h → (K w.params).In h)
  (F : ∀ (w : World) (mg : Str → Option Value) (fa : Addr) (h : Heap), (K w.params).In h → h.Ns mainGlobals mg → mg d.name = some (.ref fa) →
   ∃ fd : FuncData, (∀ (s : Shared) (u : Value), BindsTo s fd ⟨[u], []⟩ [("_law_script", u)]) ∧ ∀ base : Heap, (K w.params).In base → base.Ns mainGlobals mg → FnOk l.prog w (K w.params) mg base CX0 11 fa fd ["_law_script"] (spD (K w.params) fV_law 1)) :
  PySem.W.WalkO q loose XP YP l.row.toRowW d [] (fun f vs => PySem.call f vs) :=
 L2.walk_of (n := 63) (k := 11) (x := "_law_script") (CX := fun _ => CX0) (sp := fun w => spD (K w.params) fV_law 1) hn (by decide) hdf ⟨rfl, by decide, by decide⟩ hY F (fun w H a ns hl hO hS => sp_law hlaw hl hS) fun _ _ _ _ _ z => z
end Fw.k14
end
namespace Fw
open PySem Fw Fw.H
theorem r_sSeq_is (a b : DS) (e : Slots) (μ : Store) : sSeq a b e μ = (a e μ).seq b := rfl
theorem r_sSet_is (i : Nat) (d : D) (e : Slots) (μ : Store) : sSet i d e μ = (d e μ).toS e fun x μ1 => .nx (e.set i (some x)) μ1 := rfl
theorem r_sRet_is (d : D) (e : Slots) (μ : Store) : sRet d e μ = (d e μ).toS e fun x μ1 => .rt x μ1 := rfl
theorem r_sIf_is (c : D) (a b : DS) (e : Slots) (μ : Store) : sIf c a b e μ = (c e μ).toS e fun x μ1 => (R.lift (asB x) μ1).toS e fun k μ1 => if k = true then a e μ1 else b e μ1 := rfl
theorem r_sNil_is (e : Slots) (μ : Store) : sNil e μ = .nx e μ := rfl
theorem r_dUn_is (f : T → Option T) (a : D) (e : Slots) (μ : Store) : dUn f a e μ = (a e μ).bind fun x μ1 => R.lift (ap1 f (rd μ1 x)) μ1 := rfl
theorem r_dBin_is (f : T → T → Option T) (a b : D) (e : Slots) (μ : Store) : dBin f a b e μ = (a e μ).bind fun x μ1 => (b e μ1).bind fun y μ2 => R.lift (ap2 f (rd μ2 x) (rd μ2 y)) μ2 := rfl
theorem r_dVar_is (i : Nat) (e : Slots) (μ : Store) : dVar i e μ = R.lift (slot e i) μ := rfl
theorem r_dC_is (t : T) (e : Slots) (μ : Store) : dC t e μ = .ok (.val t) μ := rfl
theorem r_dCall_is (f : FN) (ds : List D) (e : Slots) (μ : Store) : dCall f ds e μ = (dArgs ds e μ).bind fun xs μ1 => f xs μ1 := rfl
theorem r_dArgs_cons (d : D) (ds : List D) (e : Slots) (μ : Store) : dArgs (d :: ds) e μ = (d e μ).bind fun x μ1 => (dArgs ds e μ1).bind fun xs μ2 => .ok (x :: xs) μ2 := rfl
theorem r_dArgs_nil (e : Slots) (μ : Store) : dArgs [] e μ = .ok [] μ := rfl
theorem r_dTup_is (ds : List D) (e : Slots) (μ : Store) : dTup ds e μ = (dArgs ds e μ).bind fun xs μ1 => (frzs xs μ1).bind fun ts μ2 => .ok (.val (.tup ts)) μ2 := rfl
theorem r_dLst_is (ds : List D) (e : Slots) (μ : Store) : dLst ds e μ = (dArgs ds e μ).bind fun xs μ1 => (frzs xs μ1).bind fun ts μ2 => .ok (.val (.lst ts)) μ2 := rfl
theorem r_dIdx_is (a b : D) (e : Slots) (μ : Store) : dIdx a b e μ = (a e μ).bind fun x μ1 => (b e μ1).bind fun y μ2 => R.lift ((rd μ2 y).bind fun u => idxS μ2 x u) μ2 := rfl
theorem r_dLen_is (a : D) (e : Slots) (μ : Store) : dLen a e μ = (a e μ).bind fun x μ1 => R.lift ((lenS μ1 x).map SV.val) μ1 := rfl
theorem r_cal_is (f : FN) (xs : List SV) (μ : Store) : cal f xs μ = (f xs μ).calm := rfl
theorem r_slot_succ (x : Option SV) (e : Slots) (i : Nat) : slot (x :: e) (i + 1) = slot e i := rfl
theorem r_slot_zero (x : SV) (e : Slots) : slot (some x :: e) 0 = some x := rfl
theorem r_R_toS_ok {α : Type} (a : α) (e : Slots) (μ : Store) (f : α → Store → RS) : (R.ok a μ).toS e f = f a μ := rfl
theorem r_rd_val (μ : Store) (t : T) : rd μ (.val t) = some t := rfl
theorem r_ap1_some (f : T → Option T) (t : T) : ap1 f (some t) = (f t).map SV.val := rfl
theorem r_ap2_some (f : T → T → Option T) (t u : T) : ap2 f (some t) (some u) = (f t u).map SV.val := rfl
theorem r_asB_bl (b : Bool) : asB (.val (.bl b)) = some b := rfl
theorem r_frz_val (μ : Store) (t : T) : frz (.val t) μ = .ok t μ := rfl
theorem r_frzs_nil (μ : Store) : frzs [] μ = .ok [] μ := rfl
theorem r_frzs_cons (x : SV) (xs : List SV) (μ : Store) : frzs (x :: xs) μ = (frz x μ).bind fun t μ1 => (frzs xs μ1).bind fun ts μ2 => .ok (t :: ts) μ2 := rfl
theorem r_RS_seq_nx (e : Slots) (μ : Store) (f : Slots → Store → RS) : (RS.nx e μ).seq f = f e μ := rfl
theorem r_R_lift_some {α : Type} (a : α) (μ : Store) : R.lift (some a) μ = .ok a μ := rfl
theorem r_R_bind_ok {α β : Type} (a : α) (μ : Store) (f : α → Store → R β) : (R.ok a μ).bind f = f a μ := rfl
theorem r_R_calm_ok {α : Type} (a : α) (μ : Store) : (R.ok a μ).calm = .ok a μ := rfl
theorem r_dAnd_is (a b : D) (e : Slots) (μ : Store) : dAnd a b e μ = (a e μ).bind fun x μ1 => (R.lift (asB x) μ1).bind fun k μ1 => if k = true then b e μ1 else .ok (.val (.bl false)) μ1 := rfl
theorem r_dOr_is (a b : D) (e : Slots) (μ : Store) : dOr a b e μ = (a e μ).bind fun x μ1 => (R.lift (asB x) μ1).bind fun k μ1 => if k = true then .ok (.val (.bl true)) μ1 else b e μ1 := rfl
theorem r_dNot_is (a : D) (e : Slots) (μ : Store) : dNot a e μ = (a e μ).bind fun x μ1 => (R.lift (asB x) μ1).bind fun k μ1 => .ok (.val (.bl (!k))) μ1 := rfl
theorem r_iSeq_is (d : D) (e : Slots) (μ : Store) : iSeq d e μ = (d e μ).bind fun x μ1 => (R.lift ((rd μ1 x).bind seqItems) μ1).bind fun ts μ1 => .ok ⟨ts, fun μ' => rd μ' x = rd μ1 x⟩ μ1 := rfl
theorem r_sFor_is (it : DI) (b : BD) (body : DS) (e : Slots) (μ : Store) : sFor it b body e μ = (it e μ).toS e fun W μ1 => forL W.same b body W.items e μ1 := rfl
theorem r_ini_nil (e : Slots) : ini [] e = [] := rfl
theorem r_ini_none (mp : List (Option Nat)) (e : Slots) : ini (none :: mp) e = none :: ini mp e := rfl
theorem r_ini_some (j : Nat) (mp : List (Option Nat)) (e : Slots) : ini (some j :: mp) e = slot e j :: ini mp e := rfl
theorem r_bName_is (i : Nat) (t : T) (e : Slots) : bName i t e = some (e.set i (some (.val t))) := rfl
end Fw
local macro_rules
 | `(tactic| simp_all! only [$ls,*]) => do
  let mut xs : Array (Lean.TSyntax `Lean.Parser.Tactic.simpLemma) := #[]
  for n in "r_sSeq_is r_sSet_is r_sRet_is r_sIf_is r_sNil_is r_dUn_is r_dBin_is r_dVar_is r_dC_is r_dCall_is r_dArgs_cons r_dArgs_nil r_dTup_is r_dLst_is r_dIdx_is r_dLen_is r_cal_is r_slot_succ r_slot_zero r_R_toS_ok r_rd_val r_ap1_some r_ap2_some r_asB_bl r_frz_val r_frzs_nil r_frzs_cons r_RS_seq_nx r_R_lift_some r_R_bind_ok r_R_calm_ok r_dAnd_is r_dOr_is r_dNot_is r_iSeq_is r_sFor_is r_ini_nil r_ini_none r_ini_some r_bName_is".splitOn " " do xs := xs.push (← `(Lean.Parser.Tactic.simpLemma| $(Lean.mkIdent (`Fw ++ n.toName)):term))
  `(tactic| try dsimp only [$(xs),*, Nat.reduceAdd, Nat.reduceSub, List.set_cons_succ, List.set_cons_zero, $ls,*])
namespace Fw.E
open PySem Fw Fw.H
structure Rw (p : Int) (L : Nat) (r : List Int) : Prop where
 len : r.length = L
 lo : ∀ x ∈ r, 0 ≤ x
 hi : ∀ x ∈ r, x < p
noncomputable def g (r : List Int) (k : Nat) : Int := r.getD k 0
noncomputable def dot : List Int → List Int → Int
 | x :: xs, y :: ys => x * y + dot xs ys
 | _, _ => 0
theorem md (x p : Int) : ∃ t, x % p = x - p * t := ⟨x / p, Int.emod_def x p⟩
noncomputable def sub (p n : Int) (row lead : List Int) : List Int := (row.zip lead).map fun q => (q.1 - n * q.2) % p
noncomputable def fr (p : Int) (row lead : List Int) (q : Nat) : List Int := if g row q = 0 then row else sub p (g row q) row lead
noncomputable def Z (p : Int) (c r : List Int) : Prop := p ∣ dot c r
end Fw.E
namespace Fw.E
open PySem Fw Fw.H
noncomputable abbrev Ld := Nat × List Int
noncomputable def led (p : Int) (ls : List Ld) (fresh : List Int) (f : Nat) : List Ld := ls.map fun q => (q.1, fr p q.2 fresh f)
end Fw.E
namespace Fw.E
open PySem Fw Fw.H
noncomputable abbrev li (r : List Int) : T := .lst (r.map T.int)
end Fw.E
namespace Fw.E
open PySem Fw Fw.H
noncomputable def dk (ls : List Ld) : List (Key × T) := ls.map fun q => ((.inl (q.1 : Int) : Key), li q.2)
section
variable {p : Int} {L m : Nat}
end
end Fw.E
namespace Fw.E
open PySem Fw Fw.H
seal RS.goes
section
variable {p : Int} {L m : Nat}
end
end Fw.E
namespace Fw.E
open PySem Fw Fw.H
theorem Rw.drop {p : Int} {n k : Nat} {r : List Int} (h : Rw p n r) : Rw p (n - k) (r.drop k) :=
 ⟨by simp [h.len], fun x hx => h.lo x (List.mem_of_mem_drop hx), fun x hx => h.hi x (List.mem_of_mem_drop hx)⟩
noncomputable def col (lines : List (List Int)) (j : Nat) : List Int := lines.map fun l => g l j
section
variable {p : Int} {w : Nat} {lines : List (List Int)} {ws : List Int}
end
end Fw.E
namespace Fw.E
open PySem Fw Fw.H
noncomputable abbrev tu (r : List Int) : T := .tup (r.map T.int)
section
variable {p : Int} {w : Nat} {lines : List (List Int)} {ws : List Int}
end
end Fw.E
namespace Fw.E
open PySem Fw Fw.H
seal RS.goes
section
variable {p : Int} {w : Nat} {lines : List (List Int)} {ws : List Int}
end
end Fw.E
namespace Fw.E
open PySem Fw Fw.H
seal RS.goes
section
variable {p : Int} {w : Nat} {lines : List (List Int)} {ws : List Int}
end
end Fw.E
namespace Fw.E
open PySem Fw Fw.H
end Fw.E
namespace Fw.E
open PySem Fw Fw.H
end Fw.E
namespace Fw.E
open PySem Fw Fw.H
end Fw.E
namespace Fw.F
open PySem Fw Fw.H Fw.E
noncomputable abbrev Rows := List (Int × List Int)
noncomputable def rt (q : Int × List Int) : T := .tup [.int q.1, tu q.2]
noncomputable def tb (p : Int) (w : Nat) (rows : Rows) : T := .tup [.int p, .int w, .tup (rows.map rt)]
theorem gc_new (μ : Store) (t : T) : gc μ.length (.cel μ.length) (μ ++ [(true, t)]) = .ok (.cel μ.length) (μ ++ [(true, t)]) := by
 unfold gc
 simp
theorem ice_new (μ : Store) (t : T) : ice μ.length (.cel μ.length) (μ ++ [(true, t)]) = .ok (.val t) μ := by
 unfold ice
 rw [frz_at (b := true) (t := t) (by simp), R.bind_ok]
 simp
end Fw.F
namespace Fw
open PySem Fw Fw.H Fw.E
theorem fEq_nil : fEq (.lst []) (.lst []) = some (.bl true) := fEq_ints [] []
theorem fNe_nil : fNe (.lst []) (.lst []) = some (.bl false) := fNe_ints [] []
theorem st_all (x : SV) (μ : Store) : R.ok x (μ.take μ.length) = R.ok x μ := by rw [List.take_length]
noncomputable def stw := And.intro @sSeq_is <| And.intro @sSet_is <| And.intro @sRet_is <| And.intro @sIf_is <| And.intro @sExpr_is <| And.intro @sNil_is <| And.intro @sAppend_is <| And.intro @sUnp_is <| And.intro @sClear_is <| And.intro @sSetItem_is <| And.intro @sPutD_is <| And.intro @sFor_is <| And.intro @dCell_is <| And.intro @dUn_is <| And.intro @dBin_is <| And.intro @dVar_is <| And.intro @dC_is <| And.intro @dCall_is <| And.intro @dArgs_cons <| And.intro @dArgs_nil <| And.intro @dNot_is <| And.intro @dAnd_is <| And.intro @dOr_is <| And.intro @dIfx_is <| And.intro @dTup_is <| And.intro @dLst_is <| And.intro @dIdx_is <| And.intro @dLen_is <| And.intro @dComp_is <| And.intro @dCut_is <| And.intro @dOpt_none <| And.intro @dOpt_some <| And.intro @dBox_is <| And.intro @iSeq_is <| And.intro @iRange1_is <| And.intro @iRange2_is <| And.intro @iZip_is <| And.intro @iEnum_is <| And.intro @iItems_is <| And.intro @ini_nil <| And.intro @ini_none <| And.intro @ini_some <| And.intro @bName_is <| And.intro @bTup_pair <| And.intro @bTup_tri <| And.intro @cal_is <| And.intro @fnV_is <| And.intro @fnD_is <| And.intro @fnK_is <| And.intro @starts_is <| And.intro @slot_succ <| And.intro @slot_zero <| And.intro @slot_none <| And.intro @R.toS_ok <| And.intro @rd_val <| And.intro @rd_cel <| And.intro @asV_val <| And.intro @ap1_some <| And.intro @ap2_some <| And.intro @toCell_val <| And.intro @asB_bl <| And.intro @asInt_int <| And.intro @frz_val <| And.intro @frzs_nil <| And.intro @frzs_cons <| And.intro @RS.seq_nx <| And.intro @RS.seq_rt <| And.intro @endV_rt <| And.intro @endD_rt <| And.intro @endK_rt <| And.intro @ice_val <| And.intro @fList_lst <| And.intro @fTuple_lst <| And.intro @fTuple_tup <| And.intro @seqItems_lst <| And.intro @seqItems_tup <| And.intro @lenS_lst <| And.intro @lenS_tup <| And.intro @idxS_lst <| And.intro @idxS_tup <| And.intro @idxS_box <| And.intro @fAdd_int <| And.intro @fSub_int <| And.intro @fMod_int <| And.intro @fDiv_int <| And.intro @fNeg_int <| And.intro @fMulA_l <| And.intro @fMulA_r <| And.intro @fLt_int <| And.intro @fLe_int <| And.intro @fGt_int <| And.intro @fGe_int <| And.intro @fEq_int <| And.intro @fNe_int <| And.intro @fEq_str <| And.intro @fNe_str <| And.intro @fEq_ints <| And.intro @fNe_ints <| And.intro @fEq_nil <| And.intro @fNe_nil <| And.intro @st_all <| And.intro @fBand_one <| And.intro @fInt_int <| And.intro @fInt_bl <| And.intro @notNon_non <| And.intro @notNon_int <| And.intro @fRev_lst <| And.intro @R.lift_some <| And.intro @R.bind_ok <| And.intro @R.calm_ok <| And.intro @atI_zero <| And.intro @atI_one <| @atI_two
noncomputable def stc := And.intro @Option.bind_some.{0, 0} <| And.intro @Option.map_some.{0, 0} <| And.intro @List.map_cons.{0, 0} <| And.intro @List.map_nil.{0, 0} <| And.intro @List.length_cons.{0} <| And.intro @List.length_nil.{0} <| And.intro @List.cons_append.{0} <| And.intro @List.nil_append.{0} <| And.intro @List.replicate_succ.{0} <| And.intro @List.replicate_zero.{0} <| And.intro @List.set_cons_succ.{0} <| And.intro @List.set_cons_zero.{0} <| And.intro @List.getElem?_cons_zero.{0} <| And.intro @List.getElem?_cons_succ.{0} <| And.intro @List.take_zero.{0} <| And.intro @List.take_nil.{0} <| And.intro @beq_self_eq_true.{0} <| And.intro @if_false.{1} <| And.intro @if_true.{1} <| And.intro @Bool.false_eq_true <| And.intro @Bool.not_true <| @Bool.not_false
end Fw
namespace Fw
open PySem Fw Fw.H Fw.E
end Fw
local macro_rules
 | `(tactic| simp! only [$ls,*]) => do
  let mut xs : Array (Lean.TSyntax `Lean.Parser.Tactic.simpLemma) := #[]
  for n in "r_sSeq_is r_sSet_is r_sRet_is r_sIf_is r_sNil_is r_dUn_is r_dBin_is r_dVar_is r_dC_is r_dCall_is r_dArgs_cons r_dArgs_nil r_dTup_is r_dLst_is r_dIdx_is r_dLen_is r_cal_is r_slot_succ r_slot_zero r_R_toS_ok r_rd_val r_ap1_some r_ap2_some r_asB_bl r_frz_val r_frzs_nil r_frzs_cons r_RS_seq_nx r_R_lift_some r_R_bind_ok r_R_calm_ok r_dAnd_is r_dOr_is r_dNot_is r_iSeq_is r_sFor_is r_ini_nil r_ini_none r_ini_some r_bName_is sExpr_is sAppend_is sUnp_is sClear_is sSetItem_is sPutD_is dCell_is dIfx_is dComp_is dCut_is dOpt_none dOpt_some dBox_is iRange1_is iRange2_is iZip_is iEnum_is iItems_is bTup_pair bTup_tri fnV_is fnD_is fnK_is starts_is slot_none rd_cel asV_val toCell_val asInt_int RS.seq_rt endV_rt endD_rt endK_rt ice_val fList_lst fTuple_lst fTuple_tup seqItems_lst seqItems_tup lenS_lst lenS_tup idxS_lst idxS_tup idxS_box fAdd_int fSub_int fMod_int fDiv_int fNeg_int fMulA_l fMulA_r fLt_int fLe_int fGt_int fGe_int fEq_int fNe_int fEq_str fNe_str fEq_ints fNe_ints fEq_nil fNe_nil st_all fBand_one fInt_int fInt_bl notNon_non notNon_int fRev_lst atI_zero atI_one atI_two".splitOn " " do xs := xs.push (← `(Lean.Parser.Tactic.simpLemma| $(Lean.mkIdent (`Fw ++ n.toName)):term))
  `(tactic| simp (disch := first | decide | omega | assumption) only [$(xs),*, Fw.stc, Nat.reduceAdd, Nat.reduceSub, $ls,*])
local macro_rules
 | `(tactic| dsimp! only [$ls,*]) => do
  let mut xs : Array (Lean.TSyntax `Lean.Parser.Tactic.simpLemma) := #[]
  for n in "r_slot_succ r_slot_zero r_dVar_is r_dC_is r_rd_val r_frz_val r_asB_bl sSeq_is sSet_is sRet_is sIf_is sExpr_is sNil_is sAppend_is sUnp_is sClear_is sSetItem_is sPutD_is sFor_is dCell_is dUn_is dBin_is dCall_is dArgs_cons dArgs_nil dNot_is dAnd_is dOr_is dIfx_is dTup_is dLst_is dIdx_is dLen_is dComp_is dCut_is dOpt_none dOpt_some dBox_is iSeq_is iRange1_is iRange2_is iZip_is iEnum_is iItems_is ini_nil ini_none ini_some bName_is bTup_pair bTup_tri cal_is fnV_is fnD_is fnK_is starts_is slot_none R.toS_ok rd_cel asV_val ap1_some ap2_some toCell_val asInt_int frzs_nil frzs_cons RS.seq_nx RS.seq_rt endV_rt endD_rt endK_rt ice_val fList_lst fTuple_lst fTuple_tup seqItems_lst seqItems_tup lenS_lst lenS_tup idxS_lst idxS_tup idxS_box fAdd_int fSub_int fMod_int fDiv_int fNeg_int fMulA_l fMulA_r fLt_int fLe_int fGt_int fGe_int fEq_int fNe_int fEq_str fNe_str fEq_ints fNe_ints fEq_nil fNe_nil st_all fBand_one fInt_int fInt_bl notNon_non notNon_int fRev_lst R.lift_some R.bind_ok R.calm_ok atI_zero atI_one atI_two".splitOn " " do xs := xs.push (← `(Lean.Parser.Tactic.simpLemma| $(Lean.mkIdent (`Fw ++ n.toName)):term))
  `(tactic| simp (disch := first | decide | omega | assumption) only [$(xs),*, Fw.stc, Nat.reduceAdd, Nat.reduceSub, $ls,*])
namespace Fw.U
open PySem Fw Builtin.Str
noncomputable abbrev tl (s : Str) : List Nat := s.cps.toList
theorem tl_app (a b : Str) : tl (a ++ b) = tl a ++ tl b := Array.toList_append
theorem tl_len (s : Str) : s.length = (tl s).length := by show s.cps.size = _; simp
theorem tl_inj {a b : Str} (h : tl a = tl b) : a = b := by
 cases a; cases b
 simp only [tl, Array.toList_inj] at h
 rw [h]
theorem tl_join (sep : Str) : ∀ (ws : List Str) (w : Str), tl (Txt.join sep (w :: ws)) = tl w ++ ws.flatMap fun x => tl sep ++ tl x := by
 have go : ∀ (ws : List Str) (acc : Array Nat), (ws.foldl (fun acc p => acc ++ sep.cps ++ p.cps) acc).toList = acc.toList ++ ws.flatMap fun x => tl sep ++ tl x := by
  intro ws
  induction ws with
  | nil => intro acc; simp
  | cons w ws ih => intro acc; rw [List.foldl_cons, ih]; simp [tl]
 intro ws w
 exact go ws w.cps
theorem join_ok {sep : Str} {ws : List Str} {n : Nat} (h : ∀ w ∈ ws, w.length ≤ n) (hz : ws.length * (n + sep.length) ≤ szL) : JoinOk sep ws = true := by
 have go : ∀ (ws : List Str) (a : Nat), (∀ w ∈ ws, w.length ≤ n) → ws.foldl (fun a w => a + w.length + sep.length) a ≤ a + ws.length * (n + sep.length) := by
  intro ws
  induction ws with
  | nil => intro a _; simp
  | cons w ws ih =>
   intro a h
   rw [List.foldl_cons]
   refine Nat.le_trans (ih _ fun x hx => h x (List.mem_cons_of_mem _ hx)) ?_
   have := h w List.mem_cons_self
   rw [List.length_cons, Nat.succ_mul]
   omega
 unfold JoinOk tooLong
 have := go ws 0 h
 rw [List.foldl_toArray]
 have e : szL = sizeLine := rfl
 simp only [Bool.not_eq_true', decide_eq_false_iff_not, gt_iff_lt, Nat.not_lt]
 rw [← e]
 omega
noncomputable def heads : List Str := ["all (", "one (", "2 of (", "3 of (", "4 of (", "5 of (", "6 of (", "7 of (", "8 of (", "9 of ("]
noncomputable def headS (k m : Int) : Str := if k = m then "all (" else if k = 1 then "one (" else toString k ++ " of ("
noncomputable def ltr (h : Int) : List Nat := [97 + h.toNat]
theorem heads_some : ∀ h ∈ heads, tl h ≠ [] ∧ h.length ≤ 6 := by decide +kernel
theorem headN_mem : ∀ m ∈ List.range 11, ∀ k ∈ List.range 11, 1 ≤ k → k ≤ m → headS k m ∈ heads := by decide +kernel
theorem head_mem {k m : Int} (h1 : 1 ≤ k) (h2 : k ≤ m) (h3 : m ≤ 10) : headS k m ∈ heads := by
 have := headN_mem m.toNat (List.mem_range.mpr (by omega)) k.toNat (List.mem_range.mpr (by omega)) (by omega) (by omega)
 rw [show ((k.toNat : Nat) : Int) = k by omega, show ((m.toNat : Nat) : Int) = m by omega] at this
 exact this
theorem item_letter : ∀ c ∈ List.range 10, atI (tl ("abcdefghij" : Str)) (c : Int) = some (97 + c) := by decide +kernel
end Fw.U
namespace Fw.F
open PySem Fw Fw.H Fw.E
end Fw.F
namespace Fw.F
open PySem Fw Fw.H Fw.E
end Fw.F
namespace Fw.F
open PySem Fw Fw.H Fw.E
end Fw.F
namespace Fw.J
open PySem Fw Fw.H Fw.E Fw.F
noncomputable def b_cell_at : DS :=
 (sSeq (sIf (dBin fLt (dVar 1) (dLen (dVar 0))) (sRet (dIdx (dVar 0) (dVar 1))) sNil)
 (sSeq (sIf (dBin fEq (dLen (dVar 0)) (dC (.int 0))) (sRet (dBin fAdd (dBin fMulA (dBin fMulA (dVar 1) (dVar 1)) (dC (.int 48271))) (dBin fMulA (dC (.int 7)) (dVar 1)))) sNil)
 (sRet (dBin fAdd (dBin fDiv (dIdx (dVar 0) (dBin fMod (dVar 1) (dLen (dVar 0)))) (dBin fAdd (dC (.int 1)) (dBin fDiv (dVar 1) (dLen (dVar 0))))) (dBin fMulA (dBin fMulA (dVar 1) (dVar 1)) (dC (.int 7919)))))))
noncomputable def fV_cell_at : FN := fnV 2 b_cell_at
theorem cell_at_ok (ns : List Int) (k : Int) (h0 : 0 ≤ k) (h1 : k ≤ 1000) : ∃ c, ∀ μ, fV_cell_at [.val (.lst (ns.map T.int)), .val (.int k)] μ = .ok (.val (.int c)) μ := by
 unfold fV_cell_at b_cell_at
 by_cases h : k < ns.length
 ·exact ⟨_, fun μ => by simp [h, atI_map h0 h]; rfl⟩
 ·have m2 : fMulA (.int (k * k)) (.int 48271) = some (.int (k * k * 48271)) := fMulA_r _ _ (by lia) (by lia)
  have m3 : fMulA (.int (k * k)) (.int 7919) = some (.int (k * k * 7919)) := fMulA_r _ _ (by lia) (by lia)
  have m1 : fMulA (.int k) (.int k) = some (.int (k * k)) := fMulA_r _ _ (by lia) (by lia)
  by_cases h2 : 0 < ns.length
  ·have p0 : 0 ≤ k % (ns.length : Int) := Int.emod_nonneg _ (by lia)
   have p1 : k % (ns.length : Int) < ns.length := Int.emod_lt_of_pos _ (by lia)
   have d0 : 0 ≤ k / (ns.length : Int) := Int.ediv_nonneg h0 (by lia)
   have n0 : ((ns.length : Int) == 0) = false := by rw [beq_eq_false_iff_ne]; lia
   have d1 : k / (ns.length : Int) ≤ 1000 := Int.le_trans (Int.ediv_le_self _ h0) h1
   have hd : ∀ a : Int, fDiv (.int a) (.int (1 + k / (ns.length : Int))) = some (.int (a / (1 + k / (ns.length : Int)))) := fun a => fDiv_int _ _ (by lia) (by lia)
   have hl : decide (k < (ns.length : Int)) = false := decide_eq_false h
   exact ⟨_, fun μ => by simp! only [List.length_map, hl, n0, atI_map p0 p1, hd, m1, m3]; rfl⟩
  ·have hl : decide (k < (ns.length : Int)) = false := decide_eq_false h
   have n0 : ((ns.length : Int) == 0) = true := by rw [beq_iff_eq]; lia
   exact ⟨_, fun μ => by simp! only [List.length_map, hl, n0, m1, m2]; rfl⟩
noncomputable def drawnB : DS := (sIf (dBin fEq (dBin fMod (dCall (cal fV_cell_at) [(dVar 0), (dC (.int 0))]) (dC (.int 2))) (dC (.int 0))) (sSeq (sAppend (dVar 5) (dBin fMod (dVar 4) (dVar 2)))
 (sSet 4 (dBin fDiv (dVar 4) (dVar 2)))) (sSeq (sSet 4 (dBin fMod (dBin fMulA (dBin fAdd (dBin fMod (dVar 4) (dC (.int 2147483647))) (dC (.int 1))) (dC (.int 48271))) (dC (.int 2147483647))))
 (sAppend (dVar 5) (dBin fMod (dBin fDiv (dBin fMod (dBin fAdd (dBin fMulA (dVar 4) (dC (.int 69621))) (dBin fMulA (dVar 6) (dC (.int 16807)))) (dC (.int 2147483629))) (dC (.int 11))) (dVar 2)))))
noncomputable def b_drawn : DS :=
 (sSeq (sSet 4 (dCall (cal fV_cell_at) [(dVar 0), (dVar 1)]))
 (sSeq (sSet 5 (dCell (dLst [])))
 (sSeq (sFor (iRange1 (dVar 3)) (bName 6) drawnB)
 (sRet (dVar 5)))))
theorem Rw.snoc {m x : Int} {i : Nat} {ns : List Int} (h : Rw m i ns) (h0 : 0 ≤ x) (h1 : x < m) : Rw m (i + 1) (ns ++ [x]) := by
 refine ⟨by have := h.1; simp; lia, fun y hy => ?_, fun y hy => ?_⟩
 ·rcases List.mem_append.mp hy with z | z
  ·exact h.2 y z
  ·simp at z; lia
 ·rcases List.mem_append.mp hy with z | z
  ·exact h.3 y z
  ·simp at z; lia
theorem drawn_rt (ns : List Int) (at_ base : Int) (n : Nat) (ha : 0 ≤ at_ ∧ at_ ≤ 1000) (hm : 0 < base) (hm2 : base < 1000000) (hn : n ≤ 1000) (μ : Store) :
  ∃ r, b_drawn (starts 7 [.val (.lst (ns.map T.int)), .val (.int at_), .val (.int base), .val (.int n)]) μ = .rt (.cel μ.length) (μ ++ [(true, li r)]) ∧ Rw base n r := by
 obtain ⟨c, hc⟩ := cell_at_ok ns at_ ha.1 ha.2
 obtain ⟨c0, hc0⟩ := cell_at_ok ns 0 (by lia) (by lia)
 have rn : rngOk (n : Int) = true := rngOk_of (by lia) (by lia)
 obtain ⟨e', μ', h1, x4, x6, r, rfl, rfl, hR⟩ := forL_nx (same := fun _ => True) (b := bName 6) (ts := intsT 0 (n : Int).toNat) (body := drawnB)
  (I := fun i e μ1 => ∃ x4 x6 r, e = [some (.val (.lst (ns.map T.int))), some (.val (.int at_)), some (.val (.int base)), some (.val (.int n)), some (.val (.int x4)), some (.cel μ.length), x6] ∧ μ1 = μ ++ [(true, li r)] ∧ Rw base i r)
  (fun _ _ _ _ => trivial) (fun i t e μ1 ht hX11_ => by
   obtain ⟨x4, x6, r, he, hμ, hR⟩ := hX11_
   subst he hμ
   obtain ⟨k, rfl, hi, hk⟩ := intsT_k ht
   have hi : i < n := by simpa using hi
   have hl : (r.map T.int).length < szL := by have := hR.1; unfold szL; simp; lia
   generalize hq : (true, li r) = q
   have hls : lsts (.cel μ.length) (μ ++ [q]) = some () := by rw [← hq]; exact lsts_st0 _ _ _ _
   have hap : ∀ t, appendAt (.cel μ.length) t (μ ++ [q]) = some (μ ++ [(true, T.lst (r.map T.int ++ [t]))]) := fun t => by rw [← hq]; exact append_st0 _ _ _ _ hl
   have hmod : ∀ a : Int, fMod (.int a) (.int base) = some (.int (a % base)) := fun a => fMod_int _ _ (by lia)
   have hdiv : ∀ a : Int, fDiv (.int a) (.int base) = some (.int (a / base)) := fun a => fDiv_int _ _ (by lia) (by lia)
   cases hz : (c0 % 2 == 0) with
   | true =>
    refine ⟨_, _, _, rfl, ?_, x4 / base, some (.val (.int k)), r ++ [x4 % base], rfl, rfl, Rw.snoc hR (Int.emod_nonneg _ (by lia)) (Int.emod_lt_of_pos _ hm)⟩
    unfold drawnB
    dsimp! only [hc0, hz, hls, hap, hmod, hdiv]
    simp
   | false =>
    have y0 : 0 ≤ (x4 % 2147483647 + 1) * 48271 % 2147483647 ∧ (x4 % 2147483647 + 1) * 48271 % 2147483647 < 2147483647 := by lia
    have m1 : fMulA (.int (x4 % 2147483647 + 1)) (.int 48271) = some (.int ((x4 % 2147483647 + 1) * 48271)) := fMulA_r _ _ (by lia) (by lia)
    refine ⟨_, _, _, rfl, ?_, (x4 % 2147483647 + 1) * 48271 % 2147483647, some (.val (.int k)), r ++ [((x4 % 2147483647 + 1) * 48271 % 2147483647 * 69621 + k * 16807) % 2147483629 / 11 % base], rfl, rfl, Rw.snoc hR (Int.emod_nonneg _ (by lia)) (Int.emod_lt_of_pos _ hm)⟩
    unfold drawnB
    dsimp! only [hc0, hz, m1]
    generalize (x4 % 2147483647 + 1) * 48271 % 2147483647 = y at y0 ⊢
    dsimp! only [hls, hap, hmod]
    simp)
  (e := [some (.val (.lst (ns.map T.int))), some (.val (.int at_)), some (.val (.int base)), some (.val (.int n)), some (.val (.int c)), some (.cel μ.length), none]) (μ := μ ++ [(true, li [])]) ⟨c, none, [], rfl, rfl, rfl, by simp, by simp⟩
 rw [intsT_len, Int.toNat_natCast] at hR
 refine ⟨r, ?_, hR⟩
 unfold b_drawn
 dsimp! only [hc, rn]
 rw [show (true, T.lst []) = (true, li []) from rfl, h1]
 dsimp! only []
theorem drawn_ok (ns : List Int) (at_ base : Int) (n : Nat) (ha : 0 ≤ at_ ∧ at_ ≤ 1000) (hm : 0 < base) (hm2 : base < 1000000) (hn : n ≤ 1000) (μ : Store) :
  ∃ r, fnV 7 b_drawn [.val (.lst (ns.map T.int)), .val (.int at_), .val (.int base), .val (.int n)] μ = .ok (.val (li r)) μ ∧ Rw base n r := by
 obtain ⟨r, h, hR⟩ := drawn_rt ns at_ base n ha hm hm2 hn μ
 exact ⟨r, by rw [fnV_is, h, endV_rt, ice_new], hR⟩
end Fw.J
namespace Fw.U
open PySem Fw Fw.H Fw.E
noncomputable abbrev hnd (h : Int) : T := .tup [.str "hand", .int h]
noncomputable abbrev som (k : Int) (rs : List T) : T := .tup [.str "some", .int k, .tup rs]
noncomputable def IsR : Nat → T → Prop
 | 0, t => ∃ h : Int, 0 ≤ h ∧ h < 10 ∧ t = hnd h
 | d + 1, t => (∃ h : Int, 0 ≤ h ∧ h < 10 ∧ t = hnd h) ∨ ∃ (k : Int) (r : T) (rs : List T), t = som k (r :: rs) ∧ 1 ≤ k ∧ k ≤ rs.length + 1 ∧ rs.length + 1 ≤ 10 ∧ ∀ x ∈ r :: rs, IsR d x
noncomputable def hTx : T → List Nat
 | .tup [_, .int h] => ltr h
 | _ => []
noncomputable def txt : Nat → T → List Nat
 | 0, t => hTx t
 | d + 1, t => match t with
  | .tup [_, .int k, .tup (r :: rs)] => tl (headS k (rs.length + 1)) ++ (txt d r ++ ((rs.flatMap fun x => 44 :: 32 :: txt d x) ++ [41]))
  | t => hTx t
theorem txt_hnd (d : Nat) (h : Int) : txt d (hnd h) = ltr h := by cases d <;> rfl
theorem txt_som (d : Nat) (k : Int) (r : T) (rs : List T) : txt (d + 1) (som k (r :: rs)) = tl (headS k (rs.length + 1)) ++ (txt d r ++ ((rs.flatMap fun x => 44 :: 32 :: txt d x) ++ [41])) := rfl
noncomputable def bnd : Nat → Nat
 | 0 => 1
 | d + 1 => 10 * bnd d + 27
theorem flat_len {f : T → List Nat} {n : Nat} : ∀ {rs : List T}, (∀ x ∈ rs, (f x).length ≤ n) → (rs.flatMap fun x => 44 :: 32 :: f x).length ≤ rs.length * (n + 2)
 | [], _ => by simp
 | r :: rs, h => by
  have h1 := h r List.mem_cons_self
  have h2 := flat_len (rs := rs) fun x hx => h x (List.mem_cons_of_mem _ hx)
  rw [List.flatMap_cons, List.length_append, List.length_cons, List.length_cons, List.length_cons, Nat.succ_mul]
  lia
theorem txt_len : ∀ (d : Nat) (t : T), IsR d t → (txt d t).length ≤ bnd d := by
 intro d
 induction d with
 | zero =>
  rintro t ⟨h, _, _, rfl⟩
  rw [txt_hnd]; simp [ltr, bnd]
 | succ d ih =>
  rintro t (⟨h, _, _, rfl⟩ | ⟨k, r, rs, rfl, h1, h2, h3, h4⟩)
  ·rw [txt_hnd]; simp [ltr, bnd]
  ·rw [txt_som]
   have a1 := (heads_some _ (head_mem h1 h2 (by lia))).2
   rw [tl_len] at a1
   have a2 := ih r (h4 r List.mem_cons_self)
   have a3 := flat_len (rs := rs) fun x hx => ih x (h4 x (List.mem_cons_of_mem _ hx))
   have a4 : rs.length * (bnd d + 2) ≤ 9 * (bnd d + 2) := Nat.mul_le_mul_right _ (by lia)
   rw [List.length_append, List.length_append, List.length_append]
   simp only [List.length_cons, List.length_nil, bnd]
   lia
theorem bnd_le : ∀ d, d ≤ 5 → bnd d ≤ 400000 := by decide
noncomputable def hHd : T → List Int
 | .tup [_, .int h] => [h]
 | _ => []
noncomputable def hwd : Nat → T → List Int
 | 0, t => hHd t
 | d + 1, t => match t with
  | .tup [_, .int _, .tup rs] => rs.flatMap (hwd d)
  | t => hHd t
noncomputable def fitRh (hs : List Int) : T → Bool
 | .tup [_, .int h] => decide (h ∈ hs)
 | _ => false
noncomputable def fitR (hs : List Int) : Nat → T → Bool
 | 0, t => fitRh hs t
 | d + 1, t => match t with
  | .tup [_, .int k, .tup rs] => decide (k ≤ ((rs.filter (fitR hs d)).length : Int))
  | t => fitRh hs t
theorem fit_hnd (hs : List Int) (d : Nat) (h : Int) : fitR hs d (hnd h) = decide (h ∈ hs) := by cases d <;> rfl
theorem fit_som (hs : List Int) (d : Nat) (k : Int) (rs : List T) : fitR hs (d + 1) (som k rs) = decide (k ≤ ((rs.filter (fitR hs d)).length : Int)) := rfl
theorem someHand : (("some" : Str) == "hand") = false := by decide +kernel
noncomputable def b_is_hand : DS := (sRet (dBin fEq (dIdx (dVar 0) (dC (.int 0))) (dC (.str "hand"))))
noncomputable def fV_is_hand : FN := fnV 1 b_is_hand
theorem hand_yes (h : Int) (μ : Store) : fV_is_hand [.val (hnd h)] μ = .ok (.val (.bl true)) μ := by unfold fV_is_hand b_is_hand; simp (disch := first | decide | omega | assumption) only [stw, stc, Nat.reduceAdd, Nat.reduceSub]
theorem hand_no (k : Int) (rs : List T) (μ : Store) : fV_is_hand [.val (som k rs)] μ = .ok (.val (.bl false)) μ := by unfold fV_is_hand b_is_hand; simp (disch := first | decide | omega | assumption) only [stw, stc, Nat.reduceAdd, Nat.reduceSub, someHand]
noncomputable def b_fits (self_fits : FN) : DS :=
 (sSeq (sIf (dCall (cal fV_is_hand) [(dVar 0)]) (sRet (dBin fIn (dIdx (dVar 0) (dC (.int 1))) (dVar 1))) sNil)
 (sRet (dBin fGe (dLen (dComp (iSeq (dIdx (dVar 0) (dC (.int 2)))) [none, some 1] (bName 0) (dCall (cal self_fits) [(dVar 0), (dVar 1)]) (dVar 0))) (dIdx (dVar 0) (dC (.int 1))))))
theorem fits_ok {F : Nat → FN} (hF : ∀ n, F (n + 1) = fnV 2 (b_fits (F n))) : ∀ (d n : Nat) (t : T), IsR d t → d ≤ n → ∀ (μ : Store) (v : SV) (hs : List Int), rd μ v = some (li hs) → F (n + 1) [.val t, v] μ = .ok (.val (.bl (fitR hs d t))) μ := by
 intro d
 induction d with
 | zero =>
  rintro n t ⟨h, _, _, rfl⟩ hn μ v hs hv
  rw [hF, fit_hnd]
  unfold b_fits
  simp (disch := first | decide | omega | assumption) only [stw, stc, Nat.reduceAdd, Nat.reduceSub, hand_yes, hv, fIn_ints]
 | succ d ih =>
  rintro n t ht hn μ v hs hv
  obtain ⟨m, rfl⟩ : ∃ m, n = m + 1 := ⟨n - 1, by lia⟩
  rcases ht with ⟨h, _, _, rfl⟩ | ⟨k, r, rs, rfl, h1, h2, h3, h4⟩
  ·rw [hF, fit_hnd]
   unfold b_fits
   simp (disch := first | decide | omega | assumption) only [stw, stc, Nat.reduceAdd, Nat.reduceSub, hand_yes, hv, fIn_ints]
  ·have hc := fun (same : Store → Prop) (hs' : same μ) => compL_eq (same := same) (b := bName 0) (c := dCall (cal (F (m + 1))) [(dVar 0), (dVar 1)]) (d := dVar 0) (e := [none, some v]) (μ := μ) (fitR hs d) id hs' (r :: rs) fun x hx => by
    refine ⟨_, rfl, ?_, fun _ => ?_⟩
    ·simp (disch := first | decide | omega | assumption) only [stw, stc, Nat.reduceAdd, Nat.reduceSub, ih m x (h4 x hx) (by lia) μ v hs hv]
    ·simp (disch := first | decide | omega | assumption) only [stw, stc, Nat.reduceAdd, Nat.reduceSub, id]
   rw [hF, fit_som]
   unfold b_fits
   simp (disch := first | decide | omega | assumption) only [stw, stc, Nat.reduceAdd, Nat.reduceSub, hand_no]
   rw [hc]
   ·rw [R.calm_ok, R.bind_ok, if_pos (by simp [szL]; lia)]
    simp (disch := first | decide | omega | assumption) only [stw, stc, Nat.reduceAdd, Nat.reduceSub, List.map_id]
   ·trivial
theorem hwd_hnd (d : Nat) (h : Int) : hwd d (hnd h) = [h] := by cases d <;> rfl
theorem hwd_som (d : Nat) (k : Int) (rs : List T) : hwd (d + 1) (som k rs) = rs.flatMap (hwd d) := rfl
theorem flat_le {α : Type} {f : T → List α} {n : Nat} : ∀ {rs : List T}, (∀ x ∈ rs, (f x).length ≤ n) → (rs.flatMap f).length ≤ rs.length * n
 | [], _ => by simp
 | r :: rs, h => by
  have h1 := h r List.mem_cons_self
  have h2 := flat_le (rs := rs) fun x hx => h x (List.mem_cons_of_mem _ hx)
  rw [List.flatMap_cons, List.length_append, List.length_cons, Nat.succ_mul]
  lia
theorem hwd_len : ∀ (d : Nat) (t : T), IsR d t → (hwd d t).length ≤ 10 ^ d := by
 intro d
 induction d with
 | zero =>
  rintro t ⟨h, _, _, rfl⟩
  rw [hwd_hnd]; simp
 | succ d ih =>
  rintro t (⟨h, _, _, rfl⟩ | ⟨k, r, rs, rfl, h1, h2, h3, h4⟩)
  ·rw [hwd_hnd]; exact Nat.pos_of_ne_zero (by simp)
  ·rw [hwd_som]
   refine Nat.le_trans (flat_le fun x hx => ih x (h4 x hx)) ?_
   rw [Nat.pow_succ, Nat.mul_comm]
   exact Nat.mul_le_mul_left _ (by simpa using h3)
theorem pow_le : ∀ d, d ≤ 5 → 10 ^ d ≤ 100000 := by decide
noncomputable def handsB (self_hands_written : FN) : DS := (sExtend (dVar 1) (dCall (cal self_hands_written) [(dVar 2)]))
noncomputable def b_hands_written (self_hands_written : FN) : DS :=
 (sSeq (sIf (dCall (cal fV_is_hand) [(dVar 0)]) (sRet (dLst [(dIdx (dVar 0) (dC (.int 1)))])) sNil)
 (sSeq (sSet 1 (dCell (dLst [])))
 (sSeq (sFor (iSeq (dIdx (dVar 0) (dC (.int 2)))) (bName 2) (handsB self_hands_written))
 (sRet (dVar 1)))))
theorem extend_st0 (μ : Store) (ts us : List T) (hl : ts.length + us.length ≤ szL) : extendAt (.cel μ.length) (.lst us) (μ ++ [(true, .lst ts)]) = some (μ ++ [(true, .lst (ts ++ us))]) := by
 unfold extendAt
 simp only [st_get0]
 rw [if_pos hl]
 simp
theorem hands_loop {G : FN} {d : Nat} (μ : Store) (same : Store → Prop) (hsm : ∀ μ', same μ') (x0 : Option SV) : ∀ (rs : List T) (acc : List Int) (x2 : Option SV), (∀ x ∈ rs, (hwd d x).length ≤ 100000 ∧ ∀ μ, G [.val x] μ = .ok (.val (li (hwd d x))) μ) → acc.length + rs.length * 100000 ≤ 2000000 →
  ∃ x2', forL same (bName 2) (handsB G) rs [x0, some (.cel μ.length), x2] (μ ++ [(true, li acc)]) = .nx [x0, some (.cel μ.length), x2'] (μ ++ [(true, li (acc ++ rs.flatMap (hwd d)))])
 | [], acc, x2, _, _ => ⟨x2, by unfold forL; rw [if_pos (hsm _)]; simp⟩
 | r :: rs, acc, x2, h, hl => by
  obtain ⟨b1, h1⟩ := h r List.mem_cons_self
  rw [List.length_cons, Nat.succ_mul] at hl
  obtain ⟨x2', ih⟩ := hands_loop μ same hsm x0 rs (acc ++ hwd d r) (some (.val r)) (fun x hx => h x (List.mem_cons_of_mem _ hx)) (by rw [List.length_append]; lia)
  refine ⟨x2', ?_⟩
  have e1 : extendAt (.cel μ.length) (li (hwd d r)) (μ ++ [(true, li acc)]) = some (μ ++ [(true, li (acc ++ hwd d r))]) := by
   rw [extend_st0 _ _ _ (by simp [szL]; lia)]; simp
  have hb : handsB G [x0, some (.cel μ.length), some (.val r)] (μ ++ [(true, li acc)]) = .nx [x0, some (.cel μ.length), some (.val r)] (μ ++ [(true, li (acc ++ hwd d r))]) := by
   unfold handsB
   rw [sExtend_is]
   simp (disch := first | decide | omega | assumption) only [stw, stc, Nat.reduceAdd, Nat.reduceSub, lsts_st0, h1, e1]
  unfold forL
  rw [if_pos (hsm _)]
  simp only [bName_is, List.set_cons_succ, List.set_cons_zero, hb]
  rw [ih, List.flatMap_cons, List.append_assoc]
theorem hands_ok {F : Nat → FN} (hF : ∀ n, F (n + 1) = fnV 3 (b_hands_written (F n))) : ∀ (d n : Nat) (t : T), IsR d t → d ≤ n → d ≤ 5 → ∀ (μ : Store), F (n + 1) [.val t] μ = .ok (.val (li (hwd d t))) μ := by
 intro d
 induction d with
 | zero =>
  rintro n t ⟨h, _, _, rfl⟩ hn h5 μ
  rw [hF, hwd_hnd]
  unfold b_hands_written
  simp (disch := first | decide | omega | assumption) only [stw, stc, Nat.reduceAdd, Nat.reduceSub, hand_yes]
  rfl
 | succ d ih =>
  rintro n t ht hn h5 μ
  obtain ⟨m, rfl⟩ : ∃ m, n = m + 1 := ⟨n - 1, by lia⟩
  rcases ht with ⟨h, _, _, rfl⟩ | ⟨k, r, rs, rfl, h1, h2, h3, h4⟩
  ·rw [hF, hwd_hnd]
   unfold b_hands_written
   simp (disch := first | decide | omega | assumption) only [stw, stc, Nat.reduceAdd, Nat.reduceSub, hand_yes]
   rfl
  ·have hc := fun (same : Store → Prop) (hs' : ∀ μ', same μ') => hands_loop (G := F (m + 1)) (d := d) μ same hs' (some (.val (som k (r :: rs)))) (r :: rs) [] none (fun x hx => ⟨Nat.le_trans (hwd_len d x (h4 x hx)) (pow_le d (by lia)), ih m x (h4 x hx) (by lia) (by lia)⟩) (by simp; lia)
   obtain ⟨x2', e2⟩ := hc (fun _ => True) fun _ => trivial
   rw [List.nil_append] at e2
   have e3 : forL (fun _ => True) (bName 2) (handsB (F (m + 1))) (r :: rs) [some (.val (som k (r :: rs))), some (.cel μ.length), none] (μ ++ [(true, .lst [])]) = .nx [some (.val (som k (r :: rs))), some (.cel μ.length), x2'] (μ ++ [(true, li ((r :: rs).flatMap (hwd d)))]) := e2
   rw [hF, hwd_som]
   unfold b_hands_written
   simp (disch := first | decide | omega | assumption) only [stw, stc, Nat.reduceAdd, Nat.reduceSub, hand_no]
   rw [e3]
   simp (disch := first | decide | omega | assumption) only [stw, stc, Nat.reduceAdd, Nat.reduceSub, ice_st0]
end Fw.U
namespace Fw.U
open PySem Fw Fw.H Fw.E
noncomputable abbrev tx (d : Nat) (t : T) : Str := ⟨(txt d t).toArray⟩
theorem tl_tx (d : Nat) (t : T) : tl (tx d t) = txt d t := by simp [tl]
theorem tx_len (d : Nat) (t : T) : (tx d t).length = (txt d t).length := by rw [tl_len, tl_tx]
theorem tx_hnd (d : Nat) (h : Int) : tx d (hnd h) = ⟨#[97 + h.toNat]⟩ := by
 apply tl_inj
 rw [tl_tx, txt_hnd]; rfl
theorem item_ok {h : Int} (h0 : 0 ≤ h) (h1 : h < 10) : fIdx (.str "abcdefghij") (.int h) = some (.str ⟨#[97 + h.toNat]⟩) := by
 have e := item_letter h.toNat (List.mem_range.mpr (by omega))
 rw [show ((h.toNat : Nat) : Int) = h by omega] at e
 show (if ("abcdefghij" : Str).length ≤ szL then (atI (tl ("abcdefghij" : Str)) h).map fun c => T.str ⟨#[c]⟩ else none) = _
 rw [if_pos (by decide +kernel), e]; rfl
theorem idxS_str (μ : Store) (x : Str) (u : T) : idxS μ (.val (.str x)) u = (fIdx (.str x) u).map SV.val := (rfl)
noncomputable abbrev inn (d : Nat) (r : T) (rs : List T) : Str := Txt.join ", " ((r :: rs).map (tx d))
theorem tl_inn (d : Nat) (r : T) (rs : List T) : tl (inn d r rs) = txt d r ++ (rs.flatMap fun x => 44 :: 32 :: txt d x) := by
 show tl (Txt.join ", " (tx d r :: rs.map (tx d))) = _
 rw [tl_join, tl_tx]
 rw [List.flatMap_map, show tl (", " : Str) = [44, 32] by decide +kernel]
 congr 1
theorem inn_len {d : Nat} {r : T} {rs : List T} (h5 : d ≤ 5) (h3 : rs.length + 1 ≤ 10) (h4 : ∀ x ∈ r :: rs, IsR d x) : (inn d r rs).length ≤ 4100000 := by
 rw [tl_len, tl_inn, List.length_append]
 have a0 := bnd_le d h5
 have a2 := txt_len d r (h4 r List.mem_cons_self)
 have a3 := flat_len (rs := rs) fun x hx => txt_len d x (h4 x (List.mem_cons_of_mem _ hx))
 have a4 : rs.length * (bnd d + 2) ≤ 9 * (bnd d + 2) := Nat.mul_le_mul_right _ (by omega)
 omega
theorem join_inn {d : Nat} {r : T} {rs : List T} (h5 : d ≤ 5) (h3 : rs.length + 1 ≤ 10) (h4 : ∀ x ∈ r :: rs, IsR d x) : joinT ", " (.lst ((r :: rs).map fun x => T.str (tx d x))) = some (.str (inn d r rs)) := by
 show (asStrs ((r :: rs).map fun x => T.str (tx d x))).bind (fun ys => if JoinOk ", " ys = true then some (T.str (Txt.join ", " ys)) else none) = _
 have e1 : asStrs ((r :: rs).map fun x => T.str (tx d x)) = some ((r :: rs).map (tx d)) := by
  rw [← asStrs_map, List.map_map]; rfl
 have a0 := bnd_le d h5
 have e2 : JoinOk ", " ((r :: rs).map (tx d)) = true := by
  refine join_ok (n := 400000) ?_ ?_
  ·intro w hw
   obtain ⟨x, hx, rfl⟩ := List.mem_map.mp hw
   rw [tx_len]
   exact Nat.le_trans (txt_len d x (h4 x hx)) a0
  ·rw [List.length_map, List.length_cons, show (", " : Str).length = 2 by decide +kernel, szL]
   have : (rs.length + 1) * (400000 + 2) ≤ 10 * (400000 + 2) := Nat.mul_le_mul_right _ h3
   omega
 rw [e1, Option.bind_some, if_pos e2]
theorem tx_som {d : Nat} {k : Int} {r : T} {rs : List T} : tx (d + 1) (som k (r :: rs)) = headS k (rs.length + 1) ++ inn d r rs ++ ")" := by
 apply tl_inj
 rw [tl_tx, txt_som, tl_app, tl_app, tl_inn, show tl (")" : Str) = [41] by decide +kernel]
 simp
theorem len_head {k m : Int} (h1 : 1 ≤ k) (h2 : k ≤ m) (h3 : m ≤ 10) : (headS k m).length ≤ 6 := (heads_some _ (head_mem h1 h2 h3)).2
theorem dMeth_ok {g : Str → T → Option T} {a b : D} {e : Slots} {μ : Store} {s : Str} {t u : T} (ha : a e μ = .ok (.val (.str s)) μ) (hb : b e μ = .ok (.val t) μ) (hg : g s t = some u) : dMeth g a b e μ = .ok (.val u) μ := by
 rw [dMeth_is, ha, R.bind_ok, asStr_str, R.lift_some, R.bind_ok, hb, R.bind_ok, rd_val, Option.bind_some, hg]; rfl
noncomputable def b_ltext (self__law_text : FN) : DS :=
 (sSeq (sIf (dBin fEq (dIdx (dVar 0) (dC (.int 0))) (dC (.str "hand"))) (sRet (dIdx (dC (.str "abcdefghij")) (dIdx (dVar 0) (dC (.int 1))))) sNil)
 (sSeq (sSet 1 (dMeth joinT (dC (.str ", ")) (dComp (iSeq (dIdx (dVar 0) (dC (.int 2)))) [none] (bName 0) (dC (.bl true)) (dCall (cal self__law_text) [(dVar 0)]))))
 (sSeq (sIf (dBin fEq (dIdx (dVar 0) (dC (.int 1))) (dLen (dIdx (dVar 0) (dC (.int 2))))) (sRet (dBin fAdd (dBin fAdd (dC (.str "all (")) (dVar 1)) (dC (.str ")")))) sNil)
 (sSeq (sIf (dBin fEq (dIdx (dVar 0) (dC (.int 1))) (dC (.int 1))) (sRet (dBin fAdd (dBin fAdd (dC (.str "one (")) (dVar 1)) (dC (.str ")")))) sNil)
 (sRet (dBin fAdd (dBin fAdd (dBin fAdd (dUn fStr (dIdx (dVar 0) (dC (.int 1)))) (dC (.str " of ("))) (dVar 1)) (dC (.str ")"))))))))
theorem comp_txt {F : FN} {d : Nat} {k : Int} {r : T} {rs : List T} (μ : Store) (x1 : Option SV) (h3 : rs.length + 1 ≤ 10) (hF : ∀ x ∈ r :: rs, F [.val x] μ = .ok (.val (.str (tx d x))) μ) :
  dComp (iSeq (dIdx (dVar 0) (dC (.int 2)))) [none] (bName 0) (dC (.bl true)) (dCall (cal F) [(dVar 0)]) [some (.val (som k (r :: rs))), x1] μ = .ok (.val (.lst ((r :: rs).map fun x => T.str (tx d x)))) μ := by
 have hc := fun (same : Store → Prop) (hs' : same μ) => compL_ofA (same := same) (b := bName 0) (d := dCall (cal F) [(dVar 0)]) (e := [none]) (μ := μ) (id : T → T) (fun x => .str (tx d x)) hs' (r :: rs) fun x hx => by
  refine ⟨_, rfl, ?_⟩
  simp (disch := first | decide | omega | assumption) only [stw, stc, Nat.reduceAdd, Nat.reduceSub, hF x hx, id]
 rw [List.map_id] at hc
 simp (disch := first | decide | omega | assumption) only [stw, stc, Nat.reduceAdd, Nat.reduceSub]
 rw [hc]
 ·rw [R.calm_ok, R.bind_ok, if_pos (by simp [szL]; omega)]
  rfl
 ·trivial
theorem ltext_ok {F : Nat → FN} (hF : ∀ n, F (n + 1) = fnV 2 (b_ltext (F n))) : ∀ (d n : Nat) (t : T), IsR d t → d ≤ n → d ≤ 5 → ∀ (μ : Store), F (n + 1) [.val t] μ = .ok (.val (.str (tx d t))) μ := by
 intro d
 induction d with
 | zero =>
  rintro n t ⟨h, h0, h1, rfl⟩ hn h5 μ
  rw [hF, tx_hnd]
  unfold b_ltext
  simp (disch := first | decide | omega | assumption) only [stw, stc, Nat.reduceAdd, Nat.reduceSub, idxS_str, item_ok h0 h1]
 | succ d ih =>
  rintro n t ht hn h5 μ
  obtain ⟨m, rfl⟩ : ∃ m, n = m + 1 := ⟨n - 1, by omega⟩
  rcases ht with ⟨h, h0, h1, rfl⟩ | ⟨k, r, rs, rfl, h1, h2, h3, h4⟩
  ·rw [hF, tx_hnd]
   unfold b_ltext
   simp (disch := first | decide | omega | assumption) only [stw, stc, Nat.reduceAdd, Nat.reduceSub, idxS_str, item_ok h0 h1]
  ·have e1 := dMeth_ok (g := joinT) (a := dC (.str ", ")) rfl (comp_txt (F := F (m + 1)) (d := d) (k := k) μ none h3 fun x hx => ih m x (h4 x hx) (by omega) (by omega) μ) (join_inn (by omega) h3 h4)
   have hi := inn_len (d := d) (by omega) h3 h4
   have hh := len_head (m := (rs.length : Int) + 1) h1 h2 (by omega)
   rw [hF, tx_som]
   generalize inn d r rs = w at e1 hi
   unfold b_ltext
   have l1 : (")" : Str).length = 1 := by decide +kernel
   unfold headS at hh ⊢
   by_cases c1 : k = (rs.length : Int) + 1
   ·have c1' : (k == (rs.length : Int) + 1) = true := by rw [beq_iff_eq]; exact c1
    rw [if_pos c1] at hh ⊢
    have a1 : fAdd (.str "all (") (.str w) = some (.str ("all (" ++ w)) := fAdd_str _ _ (by rw [szL]; omega)
    have a2 : fAdd (.str ("all (" ++ w)) (.str ")") = some (.str ("all (" ++ w ++ ")")) := fAdd_str _ _ (by rw [Str.length_append, szL]; omega)
    simp (disch := first | decide | omega | assumption) only [stw, stc, Nat.reduceAdd, Nat.reduceSub, someHand, e1, Int.natCast_add, Int.natCast_one, c1', a1, a2]
   ·have c1' : (k == (rs.length : Int) + 1) = false := by rw [beq_eq_false_iff_ne]; exact c1
    rw [if_neg c1] at hh ⊢
    by_cases c2 : k = 1
    ·have c2' : (k == (1 : Int)) = true := by rw [beq_iff_eq]; exact c2
     rw [if_pos c2] at hh ⊢
     have a1 : fAdd (.str "one (") (.str w) = some (.str ("one (" ++ w)) := fAdd_str _ _ (by rw [szL]; omega)
     have a2 : fAdd (.str ("one (" ++ w)) (.str ")") = some (.str ("one (" ++ w ++ ")")) := fAdd_str _ _ (by rw [Str.length_append, szL]; omega)
     simp (disch := first | decide | omega | assumption) only [stw, stc, Nat.reduceAdd, Nat.reduceSub, someHand, e1, Int.natCast_add, Int.natCast_one, c1', c2', a1, a2]
    ·have c2' : (k == (1 : Int)) = false := by rw [beq_eq_false_iff_ne]; exact c2
     rw [if_neg c2] at hh ⊢
     rw [Str.length_append] at hh
     have a0 : fStr (.int k) = some (.str (toString k)) := if_pos (by
      have : k.natAbs.log2 < 4 := Nat.log2_lt (by omega) |>.mpr (by omega)
      omega)
     have a1 : fAdd (.str (toString k)) (.str " of (") = some (.str (toString k ++ " of (")) := fAdd_str _ _ (by rw [szL]; omega)
     have a2 : fAdd (.str (toString k ++ " of (")) (.str w) = some (.str (toString k ++ " of (" ++ w)) := fAdd_str _ _ (by rw [Str.length_append, szL]; omega)
     have a3 : fAdd (.str (toString k ++ " of (" ++ w)) (.str ")") = some (.str (toString k ++ " of (" ++ w ++ ")")) := fAdd_str _ _ (by rw [Str.length_append, Str.length_append, szL]; omega)
     simp (disch := first | decide | omega | assumption) only [stw, stc, Nat.reduceAdd, Nat.reduceSub, someHand, e1, Int.natCast_add, Int.natCast_one, c1', c2', a0, a1, a2, a3]
end Fw.U
namespace Fw.U
open PySem Fw Fw.H Fw.E
noncomputable def lruleC (self__law_rule : FN) : D := (dCall (cal self__law_rule) [(dVar 1), (dVar 2), (dBin fSub (dVar 3) (dC (.int 1)))])
noncomputable def b_lrule (self__law_rule : FN) : DS :=
 (sSeq (sSet 3 (dIdx (dVar 0) (dBin fMod (dIdx (dVar 1) (dC (.int 0))) (dLen (dVar 0)))))
 (sSeq (sSetItem 1 (dC (.int 0)) (dBin fAdd (dIdx (dVar 1) (dC (.int 0))) (dC (.int 1))))
 (sSeq (sIf (dOr (dBin fEq (dVar 2) (dC (.int 0))) (dOr (dBin fLt (dIdx (dVar 1) (dC (.int 1))) (dC (.int 1))) (dBin fEq (dBin fMod (dVar 3) (dC (.int 4))) (dC (.int 0))))) (sRet (dTup [(dC (.str "hand")), (dBin fMod (dBin fDiv (dVar 3) (dC (.int 4))) (dC (.int 10)))])) sNil)
 (sSeq (sSet 4 (dBin fAdd (dC (.int 1)) (dBin fMin (dIdx (dVar 1) (dC (.int 1))) (dBin fMod (dBin fDiv (dVar 3) (dC (.int 40))) (dC (.int 10))))))
 (sSeq (sSetItem 1 (dC (.int 1)) (dBin fAdd (dBin fSub (dIdx (dVar 1) (dC (.int 1))) (dVar 4)) (dC (.int 1))))
 (sSeq (sSet 5 (dBin fAdd (dC (.int 1)) (dBin fMod (dBin fDiv (dVar 3) (dC (.int 400))) (dVar 4))))
 (sRet (dTup [(dC (.str "some")), (dVar 5), (dUn fTuple (dComp (iRange1 (dVar 4)) [none, some 0, some 1, some 2] (bName 0) (dC (.bl true)) (lruleC self__law_rule)))]))))))))
noncomputable abbrev stt (μ : Store) (a b : Int) : Store := μ ++ [(true, .lst [.int a, .int b])]
theorem stt_rd (μ : Store) (a b : Int) (u : T) : idxS (stt μ a b) (.cel μ.length) u = (fIdx (.lst [.int a, .int b]) u).map SV.val := by
 rw [idxS_cel, rd_cel, st_get0]; rfl
theorem stt_set0 (μ : Store) (a b x : Int) : setAt (.cel μ.length) (.int 0) (.int x) (stt μ a b) = some (stt μ x b) := by
 rw [setAt_at (ts := [.int a, .int b]) (by simp) (by omega) (by simp)]; simp
theorem stt_set1 (μ : Store) (a b x : Int) : setAt (.cel μ.length) (.int 1) (.int x) (stt μ a b) = some (stt μ a x) := by
 rw [setAt_at (ts := [.int a, .int b]) (by simp) (by omega) (by simp)]; simp
theorem stt_take (μ : Store) (a b a' b' : Int) : List.take (List.length (stt μ a b)) (stt μ a' b') = stt μ a' b' := List.take_of_length_le (by simp)
theorem lrule_comp {G : FN} {d : Nat} {μ : Store} {row : SV}
  (hG : ∀ a b : Int, 0 ≤ a → 0 ≤ b → b ≤ 19 → ∃ t a' b', IsR d t ∧ 0 ≤ a' ∧ 0 ≤ b' ∧ b' ≤ b ∧ ((hwd d t).length : Int) = 1 + b - b' ∧ G [row, .cel μ.length, .val (.int d)] (stt μ a b) = .ok (.val t) (stt μ a' b')) :
  ∀ (ts : List T) (a b : Int), 0 ≤ a → 0 ≤ b → b ≤ 19 → ∃ us a' b', us.length = ts.length ∧ (∀ u ∈ us, IsR d u) ∧ 0 ≤ a' ∧ 0 ≤ b' ∧ b' ≤ b ∧ ((us.flatMap (hwd d)).length : Int) = us.length + b - b' ∧
   compL (fun _ => True) (bName 0) (dC (.bl true)) (lruleC G) [none, some row, some (.cel μ.length), some (.val (.int ((d : Int) + 1)))] ts (stt μ a b) = .ok us (stt μ a' b')
 | [], a, b, ha, hb, hb2 => ⟨[], a, b, rfl, by simp, ha, hb, by omega, by simp, by unfold compL; rw [if_pos trivial]⟩
 | t :: ts, a, b, ha, hb, hb2 => by
  obtain ⟨u, a1, b1, h1, h2, h3, h4, h5, h6⟩ := hG a b ha hb hb2
  obtain ⟨us, a2, b2, g1, g2, g3, g4, g5, g6, g7⟩ := lrule_comp hG ts a1 b1 h2 h3 (by omega)
  refine ⟨u :: us, a2, b2, by simp [g1], ?_, g3, g4, by omega, ?_, ?_⟩
  ·intro x hx
   rcases List.mem_cons.mp hx with rfl | hx
   ·exact h1
   ·exact g2 x hx
  ·rw [List.flatMap_cons, List.length_append, List.length_cons]
   omega
  ·have e0 : (d : Int) + 1 - 1 = d := by omega
   have hd : lruleC G [some (.val t), some row, some (.cel μ.length), some (.val (.int ((d : Int) + 1)))] (stt μ a b) = .ok (.val u) (stt μ a1 b1) := by
    unfold lruleC
    simp (disch := first | decide | omega | assumption) only [stw, stc, Nat.reduceAdd, Nat.reduceSub, e0, h6]
   unfold compL
   rw [if_pos trivial]
   simp only [bName_is, List.set_cons_succ, List.set_cons_zero, dC_is, R.calm_ok, R.bind_ok, asB_bl, R.lift_some, if_true, hd, frz_val, g7]
theorem lrule_ok {F : Nat → FN} (hF : ∀ n, F (n + 1) = fnV 6 (b_lrule (F n))) {r : List Int} (hr : Rw 4000 24 r) (μ : Store) : ∀ (d n : Nat), d ≤ n → ∀ a b : Int, 0 ≤ a → 0 ≤ b → b ≤ 19 →
  ∃ t a' b', IsR d t ∧ 0 ≤ a' ∧ 0 ≤ b' ∧ b' ≤ b ∧ ((hwd d t).length : Int) = 1 + b - b' ∧ F (n + 1) [.val (li r), .cel μ.length, .val (.int d)] (stt μ a b) = .ok (.val t) (stt μ a' b') := by
 intro d
 induction d with
 | zero =>
  intro n hn a b ha hb hb2
  have l1 := hr.len
  have p0 : 0 ≤ a % 24 := Int.emod_nonneg _ (by omega)
  have p1 : a % 24 < r.length := by have := Int.emod_lt_of_pos a (show (0 : Int) < 24 by omega); omega
  have e1 := atI_map (f := T.int) p0 p1
  generalize r[(a % 24).toNat]'(by omega) = one at e1
  refine ⟨hnd (one / 4 % 10), a + 1, b, ⟨_, Int.emod_nonneg _ (by omega), Int.emod_lt_of_pos _ (by omega), rfl⟩, by omega, hb, by omega, by rw [hwd_hnd, List.length_singleton]; omega, ?_⟩
  rw [hF]
  unfold b_lrule
  have l2 : ((r.map T.int).length : Int) = 24 := by rw [List.length_map, l1]; rfl
  simp (disch := first | decide | omega | assumption) only [stw, stc, Nat.reduceAdd, Nat.reduceSub, stt_rd, fIdx_lst, l2, e1, stt_set0, Int.natCast_zero, stt_take]
 | succ d ih =>
  intro n hn a b ha hb hb2
  obtain ⟨m, rfl⟩ : ∃ m, n = m + 1 := ⟨n - 1, by omega⟩
  have l1 := hr.len
  have p0 : 0 ≤ a % 24 := Int.emod_nonneg _ (by omega)
  have p1 : a % 24 < r.length := by have := Int.emod_lt_of_pos a (show (0 : Int) < 24 by omega); omega
  have e1 := atI_map (f := T.int) p0 p1
  generalize r[(a % 24).toNat]'(by omega) = one at e1
  have l2 : ((r.map T.int).length : Int) = 24 := by rw [List.length_map, l1]; rfl
  have d0 : (((d : Int) + 1) == 0) = false := by rw [beq_eq_false_iff_ne]; omega
  by_cases c1 : b < 1
  ·refine ⟨hnd (one / 4 % 10), a + 1, b, .inl ⟨_, Int.emod_nonneg _ (by omega), Int.emod_lt_of_pos _ (by omega), rfl⟩, by omega, hb, by omega, by rw [hwd_hnd, List.length_singleton]; omega, ?_⟩
   rw [hF]
   unfold b_lrule
   have c1' : decide (b < 1) = true := decide_eq_true c1
   simp (disch := first | decide | omega | assumption) only [stw, stc, Nat.reduceAdd, Nat.reduceSub, stt_rd, fIdx_lst, l2, e1, stt_set0, Int.natCast_add, Int.natCast_one, d0, c1', stt_take]
  ·have c1' : decide (b < 1) = false := decide_eq_false c1
   by_cases c2 : one % 4 = 0
   ·refine ⟨hnd (one / 4 % 10), a + 1, b, .inl ⟨_, Int.emod_nonneg _ (by omega), Int.emod_lt_of_pos _ (by omega), rfl⟩, by omega, hb, by omega, by rw [hwd_hnd, List.length_singleton]; omega, ?_⟩
    rw [hF]
    unfold b_lrule
    have c2' : (one % 4 == 0) = true := by rw [beq_iff_eq]; exact c2
    simp (disch := first | decide | omega | assumption) only [stw, stc, Nat.reduceAdd, Nat.reduceSub, stt_rd, fIdx_lst, l2, e1, stt_set0, Int.natCast_add, Int.natCast_one, d0, c1', c2', stt_take]
   ·have c2' : (one % 4 == 0) = false := by rw [beq_eq_false_iff_ne]; exact c2
    have q0 : 0 ≤ one / 40 % 10 := Int.emod_nonneg _ (by omega)
    have q1 : one / 40 % 10 < 10 := Int.emod_lt_of_pos _ (by omega)
    obtain ⟨mn, hmn⟩ : ∃ mn : Int, (if one / 40 % 10 < b then one / 40 % 10 else b) = mn := ⟨_, rfl⟩
    have mb : 0 ≤ mn ∧ mn ≤ 9 ∧ mn ≤ b := by split at hmn <;> omega
    have rn : rngOk (1 + mn) = true := rngOk_of (by omega) (by omega)
    obtain ⟨us, a', b', g1, g2, g3, g4, g5, g6, g7⟩ := lrule_comp (G := F (m + 1)) (row := .val (li r)) (d := d) (μ := μ) (ih m (by omega)) (intsT 0 (1 + mn).toNat) (a + 1) (b - (1 + mn) + 1) (by omega) (by omega) (by omega)
    have g1 : us.length = (1 + mn).toNat := by rw [g1, intsT_eq]; simp
    have k0 : 0 ≤ one / 400 % (1 + mn) := Int.emod_nonneg _ (by omega)
    have k1 : one / 400 % (1 + mn) < 1 + mn := Int.emod_lt_of_pos _ (by omega)
    have hl : (intsT 0 (1 + mn).toNat).length ≤ szL := by rw [intsT_eq]; simp [szL]; omega
    have hm : fMod (.int (one / 400)) (.int (1 + mn)) = some (.int (one / 400 % (1 + mn))) := fMod_int _ _ (by omega)
    refine ⟨som (1 + one / 400 % (1 + mn)) us, a', b', ?_, g3, g4, by omega, by rw [hwd_som]; omega, ?_⟩
    ·cases us with
     | nil => simp at g1; omega
     | cons u us => exact .inr ⟨_, u, us, rfl, by omega, by simp at g1; omega, by simp at g1; omega, g2⟩
    ·rw [hF]
     unfold b_lrule
     simp (disch := first | decide | omega | assumption) only [stw, stc, Nat.reduceAdd, Nat.reduceSub, stt_rd, fIdx_lst, l2, e1, stt_set0, stt_set1, Int.natCast_add, Int.natCast_one, d0, c1', c2', fMin_int, hmn, hm, rn, g7, hl, stt_take]
end Fw.U
namespace Fw.U
open PySem Fw Fw.H Fw.E
end Fw.U
namespace Fw.U
open PySem Fw Fw.H Fw.E
end Fw.U
namespace Fw.J
open PySem Fw Fw.H Fw.E Fw.F
end Fw.J
namespace Fw.K
open PySem Fw Fw.H Fw.E Fw.F Fw.J
end Fw.K
namespace Fw.K
open PySem Fw Fw.H Fw.E Fw.F Fw.J
end Fw.K
namespace Fw.U
open PySem Fw Fw.H Fw.E
noncomputable def fV_drawn : FN := fnV 7 J.b_drawn
noncomputable def b_ldrule (F : FN) : DS :=
 (sSeq (sSet 2 (dCall (cal fV_drawn) [(dVar 0), (dVar 1), (dC (.int 4000)), (dC (.int 24))]))
 (sRet (dCall (cal F) [(dVar 2), (dCell (dLst [(dC (.int 0)), (dC (.int 19))])), (dIdx (dLst [(dC (.int 1)), (dC (.int 2)), (dC (.int 5)), (dC (.int 3)), (dC (.int 5)), (dC (.int 4))]) (dBin fMod (dCall (cal J.fV_cell_at) [(dVar 0), (dBin fAdd (dVar 1) (dC (.int 1)))]) (dC (.int 6))))])))
theorem drule_ok {F : Nat → FN} (hF : ∀ n, F (n + 1) = fnV 6 (b_lrule (F n))) (ns : List Int) (k : Int) (hk : 0 ≤ k ∧ k ≤ 100) (μ : Store) :
  ∃ (d : Nat) (t : T), d ≤ 5 ∧ IsR d t ∧ (hwd d t).length ≤ 20 ∧ fnV 3 (b_ldrule (F 8)) [.val (.lst (ns.map T.int)), .val (.int k)] μ = .ok (.val t) μ := by
 obtain ⟨r, e1, hr⟩ := J.drawn_ok ns k 4000 24 ⟨hk.1, by lia⟩ (by lia) (by lia) (by lia) μ
 have e1 : fV_drawn [.val (.lst (ns.map T.int)), .val (.int k), .val (.int 4000), .val (.int 24)] μ = .ok (.val (li r)) μ := e1
 obtain ⟨c, hc⟩ := J.cell_at_ok ns (k + 1) (by lia) (by lia)
 have h0 := Int.emod_nonneg c (show (6 : Int) ≠ 0 by lia)
 have h1 := Int.emod_lt_of_pos c (show (0 : Int) < 6 by lia)
 have ea := atI_map (xs := ([1, 2, 5, 3, 5, 4] : List Int)) (f := T.int) (i := c % 6) h0 (by show c % 6 < (6 : Nat); lia)
 have hm : (([1, 2, 5, 3, 5, 4] : List Int)[(c % 6).toNat]'(by show (c % 6).toNat < 6; lia)) ∈ ([1, 2, 5, 3, 5, 4] : List Int) := List.getElem_mem _
 generalize (([1, 2, 5, 3, 5, 4] : List Int)[(c % 6).toNat]'(by show (c % 6).toNat < 6; lia)) = dp at ea hm
 have hd : ∃ d : Nat, dp = d ∧ d ≤ 5 := by
  refine ⟨dp.toNat, ?_, ?_⟩ <;> (simp at hm; lia)
 obtain ⟨d, rfl, hd⟩ := hd
 simp only [List.map_cons, List.map_nil] at ea
 obtain ⟨t, a', b', g1, g2, g3, g4, g5, g6⟩ := lrule_ok hF hr μ d 7 (by lia) 0 19 (by lia) (by lia) (by lia)
 refine ⟨d, t, hd, g1, by lia, ?_⟩
 unfold b_ldrule
 simp (disch := first | decide | omega | assumption) only [stw, stc, Nat.reduceAdd, Nat.reduceSub, e1, hc, ea, g6, st_take]
noncomputable def bits (c : Int) : List Int := (irange 0 10).filter fun j => (c / 2 ^ j.toNat % 2 == 1)
noncomputable def b_lhands : DS :=
 (sRet (dComp (iRange1 (dC (.int 10))) [none, some 0] (bName 0) (dBin fEq (dBin fBandA (dBin fShr (dVar 1) (dVar 0)) (dC (.int 1))) (dC (.int 1))) (dVar 0)))
noncomputable def fV_lhands : FN := fnV 1 b_lhands
theorem fShr_ok (i k : Int) (h0 : 0 ≤ k) (h1 : k ≤ 64) : fShr (.int i) (.int k) = some (.int (i / 2 ^ k.toNat)) := if_pos ⟨h0, h1⟩
theorem lhands_ok (c : Int) (μ : Store) : fV_lhands [.val (.int c)] μ = .ok (.val (li (bits c))) μ := by
 have e9 : compL (fun _ => True) (bName 0) (dBin fEq (dBin fBandA (dBin fShr (dVar 1) (dVar 0)) (dC (.int 1))) (dC (.int 1))) (dVar 0) [none, some (.val (.int c))] (intsT 0 (10 : Int).toNat) μ = .ok ((bits c).map T.int) μ := by
  rw [intsT_eq, compL_ints (fun j => (c / 2 ^ j.toNat % 2 == 1)) T.int trivial]
  ·rfl
  intro j hj
  have hj := mem_irange.mp hj
  have s1 := fShr_ok c j hj.1 (by simp at hj; lia)
  refine ⟨_, rfl, ?_, fun _ => ?_⟩
  ·simp (disch := first | decide | omega | assumption) only [stw, stc, Nat.reduceAdd, Nat.reduceSub, s1, fBandA_one]
  ·simp (disch := first | decide | omega | assumption) only [stw, stc, Nat.reduceAdd, Nat.reduceSub]
 have r6 : rngOk 10 = true := rngOk_of (by lia) (by lia)
 have l6 : (intsT 0 (10 : Int).toNat).length ≤ szL := by rw [intsT_eq]; unfold szL; decide
 unfold fV_lhands b_lhands
 simp (disch := first | decide | omega | assumption) only [stw, stc, Nat.reduceAdd, Nat.reduceSub, r6, e9, l6]
end Fw.U
namespace Fw.U
open PySem Fw Fw.H Fw.E
end Fw.U
namespace Fw.U
open PySem Fw Fw.H Fw.E
end Fw.U
namespace Fw.U
open PySem Fw Fw.H Fw.E
noncomputable def val (w : Str) : Nat := NumText.digitsVal w.cps.toList
end Fw.U
namespace Fw.U
open PySem Fw Fw.H Fw.E
end Fw.U
namespace Fw.U
open PySem Fw Fw.H Fw.E
noncomputable def fs (sep : Str) (ws : List Str) : List Nat := ws.flatMap fun x => tl sep ++ tl x
theorem fs_cons (sep w : Str) (ws : List Str) : fs sep (w :: ws) = tl sep ++ (tl w ++ fs sep ws) := by simp [fs]
theorem tl_joinS (sep w : Str) (ws : List Str) : tl (Txt.join sep (w :: ws)) = tl w ++ fs sep ws := tl_join sep ws w
theorem sub_of {x : Str} {a b : Nat} {w : Str} {r : List Nat} (h : (tl x).drop a = tl w ++ r) (hb : b = a + w.length) : Builtin.Str.strSub x a b = w := by
 apply tl_inj
 show (Builtin.Str.strSub x a b).cps.toList = _
 rw [StrLaws.strSub_toList]
 have e : x.cps.toList.drop a = tl w ++ r := h
 rw [e, hb, Nat.add_sub_cancel_left, tl_len, List.take_left]
end Fw.U
namespace Fw.U
open PySem Fw Fw.H Fw.E
theorem at_m {x sep : Str} {m j k : Nat} (hj : (tl sep)[j]? = some m) (h : StrLaws.At x sep x.length k) : (tl x)[k + j]? = some m := by
 have h2 := h.2
 rw [StrLaws.subAt_eq] at h2
 have h3 : ((tl x).drop k).take sep.length = tl sep := by simpa using h2
 have hl : j < sep.length := by rw [tl_len]; exact (List.getElem?_eq_some_iff.mp hj).1
 rw [← h3, List.getElem?_take_of_lt hl, List.getElem?_drop] at hj
 exact hj
theorem at_of {x sep : Str} {k : Nat} {r : List Nat} (h : (tl x).drop k = tl sep ++ r) (hk : k ≤ x.length) : StrLaws.At x sep x.length k := by
 have hl := congrArg List.length h
 rw [List.length_drop, List.length_append, ← tl_len, ← tl_len] at hl
 refine ⟨by lia, ?_⟩
 rw [StrLaws.subAt_eq]
 have e : x.cps.toList.drop k = tl sep ++ r := h
 rw [e, tl_len, List.take_left]
 simp [tl]
theorem parts_m {x sep : Str} {m j : Nat} (hj : (tl sep)[j]? = some m) (hf : ∀ i, i < j → (tl sep)[i]? ≠ some m) : ∀ (ws : List Str) (w : Str) (cuts : List Nat) (a f : Nat), a ≤ x.length → (∀ v ∈ w :: ws, m ∉ tl v) → (tl x).drop a = tl w ++ fs sep ws → StrLaws.ChainG x sep x.length a cuts f → (∀ k, f ≤ k → ¬ StrLaws.At x sep x.length k) → StrLaws.partsFrom x sep.length a cuts = w :: ws
 | [], w, cuts, a, f, ha, hw, hd, hG, hn => by
  have none : ∀ k, a ≤ k → ¬ StrLaws.At x sep x.length k := fun k hk hA => by
   have := at_m hj hA
   have e : ((tl x).drop a)[k - a + j]? = some m := by rw [List.getElem?_drop, show a + (k - a + j) = k + j by lia]; exact this
   rw [hd] at e
   have := List.mem_of_getElem? e
   rw [show fs sep [] = [] from rfl, List.append_nil] at this
   exact hw w List.mem_cons_self this
  cases cuts with
  | nil =>
   show [Builtin.Str.strSub x a x.length] = [w]
   have hl := congrArg List.length hd
   rw [List.length_drop, show fs sep [] = [] from rfl, List.append_nil, ← tl_len, ← tl_len] at hl
   rw [sub_of hd (by lia)]
  | cons c r => exact absurd hG.2.1 (none c hG.1)
 | v :: vs, w, cuts, a, f, ha, hw, hd, hG, hn => by
  rw [fs_cons] at hd
  have hll := congrArg List.length hd
  rw [List.length_drop, List.length_append, ← tl_len, ← tl_len] at hll
  have hs : (tl sep).length = sep.length := (tl_len sep).symm
  have hA : StrLaws.At x sep x.length (a + w.length) := at_of (r := tl v ++ fs sep vs) (by
   rw [← List.drop_drop, hd, tl_len w, List.drop_left]) (by lia)
  have hjl : j < sep.length := by rw [tl_len]; exact (List.getElem?_eq_some_iff.mp hj).1
  have before : ∀ k, a ≤ k → k < a + w.length → ¬ StrLaws.At x sep x.length k := fun k h1 h2 hA => by
   have := at_m hj hA
   have e : ((tl x).drop a)[k - a + j]? = some m := by rw [List.getElem?_drop, show a + (k - a + j) = k + j by lia]; exact this
   rw [hd] at e
   by_cases hi : k - a + j < w.length
   ·rw [List.getElem?_append_left (by rw [← tl_len]; exact hi)] at e
    exact hw w List.mem_cons_self (List.mem_of_getElem? e)
   ·rw [List.getElem?_append_right (by rw [← tl_len]; lia), ← tl_len, List.getElem?_append_left (by rw [← tl_len]; lia)] at e
    exact hf _ (by lia) e
  cases cuts with
  | nil =>
   have e : f = a := hG
   subst e
   exact absurd hA (hn _ (by lia))
  | cons c r =>
   have hc : c = a + w.length := by
    rcases Nat.lt_trichotomy c (a + w.length) with q | q | q
    ·exact absurd hG.2.1 (before c hG.1 q)
    ·exact q
    ·exact absurd hA (hG.2.2.1 _ (by lia) q)
   show Builtin.Str.strSub x a c :: StrLaws.partsFrom x sep.length (c + sep.length) r = _
   have hA2 := hA.1
   rw [sub_of hd hc, parts_m hj hf vs v r (c + sep.length) f (by lia) (fun y hy => hw y (List.mem_cons_of_mem _ hy)) (by
    rw [hc, ← List.drop_drop, ← List.drop_drop, hd, tl_len w, List.drop_left, tl_len sep, List.drop_left]) hG.2.2.2 hn]
theorem repl_m {x y z : Str} {m j : Nat} (hj : (tl y)[j]? = some m) (hf : ∀ i, i < j → (tl y)[i]? ≠ some m) {w : Str} {ws : List Str} (hw : ∀ v ∈ w :: ws, m ∉ tl v) (h : tl x = tl w ++ fs y ws) : tl (Txt.replace x y z) = tl w ++ fs z ws := by
 have hy : 0 < y.length := by rw [tl_len]; exact Nat.lt_of_le_of_lt (Nat.zero_le _) (List.getElem?_eq_some_iff.mp hj).1
 obtain ⟨f, hG, hn⟩ := StrLaws.occ_tight x y (by lia)
 have key := parts_m hj hf ws w _ 0 f (Nat.zero_le _) hw (by rw [List.drop_zero]; exact h) hG hn
 unfold Txt.replace
 split
 ·rename_i hc
  have he : (Builtin.Str.occurrences x y 0 x.length (x.length + 1)).isEmpty = true := by
   rcases Bool.or_eq_true_iff.mp hc with q | q
   ·exact q
   ·exfalso
    simp at q
    lia
  rw [List.isEmpty_iff.mp he] at key
  have key : [Builtin.Str.strSub x 0 x.length] = w :: ws := key
  rw [StrLaws.sub_whole] at key
  cases key
  rw [show fs z [] = [] from rfl, List.append_nil]
 ·rw [StrLaws.partsBetween_eq, key]
  show tl (Txt.join z (w :: ws)) = _
  exact tl_joinS z w ws
noncomputable def exch (m : Nat) (y z : List Nat) (f : List Nat → List Nat) (k : List Nat) : Prop := (m ∉ k ∧ f k = k) ∨ (m ∉ k.take (k.length - y.length) ∧ k = k.take (k.length - y.length) ++ y ∧ f k = k.take (k.length - y.length) ++ z)
noncomputable instance (m : Nat) (y z : List Nat) (f : List Nat → List Nat) (k : List Nat) : Decidable (exch m y z f k) := by unfold exch; infer_instance
theorem pieces {m : Nat} {y z : Str} {f : List Nat → List Nat} : ∀ (ks : List (List Nat)), (∀ k ∈ ks, exch m (tl y) (tl z) f k) → ∃ (w : Str) (ws : List Str), (∀ v ∈ w :: ws, m ∉ tl v) ∧ ks.flatten = tl w ++ fs y ws ∧ (ks.map f).flatten = tl w ++ fs z ws
 | [], _ => by
  have e0 : tl ("" : Str) = [] := by decide +kernel
  refine ⟨"", [], fun v hv => ?_, by rw [e0]; rfl, by rw [e0]; rfl⟩
  rcases List.mem_cons.mp hv with rfl | hv
  ·rw [e0]; simp
  ·simp at hv
 | k :: ks, h => by
  obtain ⟨w, ws, h1, h2, h3⟩ := pieces ks fun u hu => h u (List.mem_cons_of_mem _ hu)
  have tlm : ∀ l : List Nat, tl ⟨l.toArray⟩ = l := fun l => by simp [tl]
  rcases h k List.mem_cons_self with ⟨a, b⟩ | ⟨a, b, c⟩
  ·refine ⟨⟨(k ++ tl w).toArray⟩, ws, fun v hv => ?_, ?_, ?_⟩
   ·rcases List.mem_cons.mp hv with rfl | hv
    ·rw [tlm]
     exact fun q => (List.mem_append.mp q).elim a (h1 w List.mem_cons_self)
    ·exact h1 v (List.mem_cons_of_mem _ hv)
   ·rw [List.flatten_cons, h2, tlm, List.append_assoc]
   ·rw [List.map_cons, List.flatten_cons, h3, tlm, b, List.append_assoc]
  ·generalize k.take (k.length - (tl y).length) = pre at a b c
   refine ⟨⟨pre.toArray⟩, w :: ws, fun v hv => ?_, ?_, ?_⟩
   ·rcases List.mem_cons.mp hv with rfl | hv
    ·rw [tlm]; exact a
    ·exact h1 v hv
   ·rw [List.flatten_cons, h2, tlm, fs_cons, b, List.append_assoc]
   ·rw [List.map_cons, List.flatten_cons, h3, tlm, fs_cons, c, List.append_assoc]
theorem repl_ks {x y z : Str} {m j : Nat} (hj : (tl y)[j]? = some m) (hf : ∀ i, i < j → (tl y)[i]? ≠ some m) {f : List Nat → List Nat} {ks : List (List Nat)} (hk : ∀ k ∈ ks, exch m (tl y) (tl z) f k) (h : tl x = ks.flatten) : tl (Txt.replace x y z) = (ks.map f).flatten := by
 obtain ⟨w, ws, h1, h2, h3⟩ := pieces ks hk
 rw [h3]
 exact repl_m hj hf h1 (h.trans h2)
end Fw.U
namespace Fw.k14
open PySem Fw Fw.H Fw.E Fw.U
noncomputable def tks : Nat → T → List (List Nat)
 | 0, t => [hTx t]
 | d + 1, t => match t with
  | .tup [_, .int k, .tup (r :: rs)] => tl (headS k (rs.length + 1)) :: (tks d r ++ ((rs.flatMap fun x => [44, 32] :: tks d x) ++ [[41]]))
  | t => [hTx t]
theorem tks_hnd (d : Nat) (h : Int) : tks d (hnd h) = [ltr h] := by cases d <;> rfl
theorem tks_som (d : Nat) (k : Int) (r : T) (rs : List T) : tks (d + 1) (som k (r :: rs)) = tl (headS k (rs.length + 1)) :: (tks d r ++ ((rs.flatMap fun x => [44, 32] :: tks d x) ++ [[41]])) := rfl
theorem flat_tks {d : Nat} : ∀ (rs : List T), (∀ x ∈ rs, (tks d x).flatten = txt d x) → (rs.flatMap fun x => [44, 32] :: tks d x).flatten = rs.flatMap fun x => 44 :: 32 :: txt d x
 | [], _ => rfl
 | a :: rs, h => by
  rw [List.flatMap_cons, List.flatMap_cons, List.flatten_append, List.flatten_cons, h a List.mem_cons_self, flat_tks rs fun x hx => h x (List.mem_cons_of_mem _ hx)]
  simp
theorem tks_flat : ∀ (d : Nat) (t : T), IsR d t → (tks d t).flatten = txt d t := by
 intro d
 induction d with
 | zero => rintro t ⟨h, h0, h1, rfl⟩; rw [tks_hnd, txt_hnd]; simp
 | succ d ih =>
  rintro t (⟨h, h0, h1, rfl⟩ | ⟨k, r, rs, rfl, h1, h2, h3, h4⟩)
  ·rw [tks_hnd, txt_hnd]; simp
  ·rw [tks_som, txt_som, List.flatten_cons, List.flatten_append, List.flatten_append, ih r (h4 r List.mem_cons_self)]
   have e := flat_tks rs fun x hx => ih x (h4 x (List.mem_cons_of_mem _ hx))
   rw [e]
   simp
noncomputable def allT : List (List Nat) := heads.map tl ++ (((List.range 10).map fun h => [97 + h]) ++ [[44, 32], [41]])
theorem head_all : ∀ h ∈ heads, tl h ∈ allT := fun h hh => List.mem_append_left _ (List.mem_map.mpr ⟨h, hh, rfl⟩)
theorem ltr_all {h : Int} (h0 : 0 ≤ h) (h1 : h < 10) : ltr h ∈ allT := List.mem_append_right _ (List.mem_append_left _ (List.mem_map.mpr ⟨h.toNat, List.mem_range.mpr (by lia), rfl⟩))
theorem tks_all : ∀ (d : Nat) (t : T), IsR d t → ∀ k ∈ tks d t, k ∈ allT := by
 intro d
 induction d with
 | zero =>
  rintro t ⟨h, h0, h1, rfl⟩ k hk
  rw [tks_hnd, List.mem_singleton] at hk
  subst hk
  exact ltr_all h0 h1
 | succ d ih =>
  rintro t (⟨h, h0, h1, rfl⟩ | ⟨k, r, rs, rfl, h1, h2, h3, h4⟩) u hu
  ·rw [tks_hnd, List.mem_singleton] at hu
   subst hu
   exact ltr_all h0 h1
  ·rw [tks_som] at hu
   rcases List.mem_cons.mp hu with rfl | hu
   ·exact head_all _ (head_mem h1 h2 (by lia))
   ·rcases List.mem_append.mp hu with hu | hu
    ·exact ih r (h4 r List.mem_cons_self) u hu
    ·rcases List.mem_append.mp hu with hu | hu
     ·obtain ⟨x, hx, hu⟩ := List.mem_flatMap.mp hu
      rcases List.mem_cons.mp hu with rfl | hu
      ·exact List.mem_append_right _ (List.mem_append_right _ List.mem_cons_self)
      ·exact ih x (h4 x (List.mem_cons_of_mem _ hx)) u hu
     ·rw [List.mem_singleton] at hu
      subst hu
      exact List.mem_append_right _ (List.mem_append_right _ (List.mem_cons_of_mem _ List.mem_cons_self))
theorem no_head : ∀ h ∈ heads, ∀ j ∈ List.range 10, tl h ≠ [97 + j] := by decide +kernel
theorem tks_hand : ∀ (d : Nat) (t : T), IsR d t → ∀ j : Nat, j < 10 → ([97 + j] ∈ tks d t ↔ (j : Int) ∈ hwd d t) := by
 have base : ∀ (d : Nat) (h : Int), 0 ≤ h → ∀ j : Nat, ([97 + j] ∈ tks d (hnd h) ↔ (j : Int) ∈ hwd d (hnd h)) := fun d h h0 j => by
  rw [tks_hnd, hwd_hnd, List.mem_singleton, List.mem_singleton]
  unfold ltr
  constructor
  ·intro e
   injection e with e
   lia
  ·intro e
   rw [← e]
   simp
 intro d
 induction d with
 | zero =>
  rintro t ⟨h, h0, h1, rfl⟩ j hj
  exact base 0 h h0 j
 | succ d ih =>
  rintro t (⟨h, h0, h1, rfl⟩ | ⟨k, r, rs, rfl, h1, h2, h3, h4⟩) j hj
  ·exact base _ h h0 j
  ·rw [tks_som, hwd_som]
   constructor
   ·intro hu
    rcases List.mem_cons.mp hu with e | hu
    ·exact absurd e.symm (no_head _ (head_mem h1 h2 (by lia)) j (List.mem_range.mpr hj))
    ·rcases List.mem_append.mp hu with hu | hu
     ·exact List.mem_flatMap.mpr ⟨r, List.mem_cons_self, (ih r (h4 r List.mem_cons_self) j hj).mp hu⟩
     ·rcases List.mem_append.mp hu with hu | hu
      ·obtain ⟨x, hx, hu⟩ := List.mem_flatMap.mp hu
       rcases List.mem_cons.mp hu with e | hu
       ·exact absurd (congrArg List.length e) (by simp)
       ·exact List.mem_flatMap.mpr ⟨x, List.mem_cons_of_mem _ hx, (ih x (h4 x (List.mem_cons_of_mem _ hx)) j hj).mp hu⟩
      ·rw [List.mem_singleton] at hu
       injection hu with e
       lia
   ·intro hu
    obtain ⟨x, hx, hu⟩ := List.mem_flatMap.mp hu
    have hv := (ih x (h4 x hx) j hj).mpr hu
    refine List.mem_cons_of_mem _ ?_
    rcases List.mem_cons.mp hx with e | hx
    ·subst e; exact List.mem_append_left _ hv
    ·exact List.mem_append_right _ (List.mem_append_left _ (List.mem_flatMap.mpr ⟨x, hx, List.mem_cons_of_mem _ hv⟩))
noncomputable def f1 (k : List Nat) : List Nat := if k = [97, 108, 108, 32, 40] then [40] else k
noncomputable def f2 (k : List Nat) : List Nat := if k = [111, 110, 101, 32, 40] then [40] else k
noncomputable def f3 (k : List Nat) : List Nat := if k.drop 1 = [32, 111, 102, 32, 40] then k.take 1 ++ [40] else k
theorem tl_all : tl ("all (" : Str) = [97, 108, 108, 32, 40] := by decide +kernel
theorem tl_one : tl ("one (" : Str) = [111, 110, 101, 32, 40] := by decide +kernel
theorem tl_of : tl (" of (" : Str) = [32, 111, 102, 32, 40] := by decide +kernel
theorem tl_par : tl ("(" : Str) = [40] := by decide +kernel
theorem ex1 : ∀ k ∈ allT, exch 108 [97, 108, 108, 32, 40] [40] f1 k := by decide +kernel
theorem ex2 : ∀ k ∈ allT.map f1, exch 110 [111, 110, 101, 32, 40] [40] f2 k := by decide +kernel
theorem ex3 : ∀ k ∈ (allT.map f1).map f2, exch 111 [32, 111, 102, 32, 40] [40] f3 k := by decide +kernel
theorem lets : ∀ k ∈ allT, ∀ h ∈ List.range 10, (97 + h ∈ f3 (f2 (f1 k)) ↔ k = [97 + h]) := by decide +kernel
theorem lens : ∀ k ∈ allT, (f1 k).length ≤ k.length ∧ (f2 (f1 k)).length ≤ k.length := by decide +kernel
theorem flat_le {f : List Nat → List Nat} : ∀ (ks : List (List Nat)), (∀ k ∈ ks, (f k).length ≤ k.length) → (ks.map f).flatten.length ≤ ks.flatten.length
 | [], _ => Nat.le_refl _
 | k :: ks, h => by
  rw [List.map_cons, List.flatten_cons, List.flatten_cons, List.length_append, List.length_append]
  have := flat_le ks fun u hu => h u (List.mem_cons_of_mem _ hu)
  have := h k List.mem_cons_self
  lia
theorem signs_ok {d : Nat} {t : T} (ht : IsR d t) (hd : d ≤ 5) : ∃ x1 x2 x3 : Str, replT "all (" "(" (.str (tx d t)) = some (.str x1) ∧ replT "one (" "(" (.str x1) = some (.str x2) ∧ replT " of (" "(" (.str x2) = some (.str x3) ∧
  ∀ j : Nat, j < 10 → (97 + j ∈ tl x3 ↔ (j : Int) ∈ hwd d t) := by
 have hl := txt_len d t ht
 have hb := bnd_le d hd
 have a0 := tks_all d t ht
 have e0 : tl (tx d t) = (tks d t).flatten := by rw [tl_tx, tks_flat d t ht]
 have lp : ("(" : Str).length = 1 := by decide +kernel
 have e1 : tl (Txt.replace (tx d t) "all (" "(") = ((tks d t).map f1).flatten := repl_ks (m := 108) (j := 1) (by rw [tl_all]; rfl) (fun i hi => by
  rw [tl_all, show i = 0 by lia]; simp) (fun k hk => by rw [tl_all, tl_par]; exact ex1 k (a0 k hk)) e0
 have l1 : (Txt.replace (tx d t) "all (" "(").length ≤ 400000 := by
  rw [tl_len, e1]
  have := flat_le (f := f1) (tks d t) fun k hk => (lens k (a0 k hk)).1
  rw [tks_flat d t ht] at this
  lia
 have a1 : ∀ k ∈ (tks d t).map f1, k ∈ allT.map f1 := fun k hk => by
  obtain ⟨u, hu, rfl⟩ := List.mem_map.mp hk
  exact List.mem_map.mpr ⟨u, a0 u hu, rfl⟩
 have e2 : tl (Txt.replace (Txt.replace (tx d t) "all (" "(") "one (" "(") = (((tks d t).map f1).map f2).flatten := repl_ks (m := 110) (j := 1) (by rw [tl_one]; rfl) (fun i hi => by
  rw [tl_one, show i = 0 by lia]; simp) (fun k hk => by rw [tl_one, tl_par]; exact ex2 k (a1 k hk)) e1
 have l2 : (Txt.replace (Txt.replace (tx d t) "all (" "(") "one (" "(").length ≤ 400000 := by
  rw [tl_len, e2, List.map_map]
  have := flat_le (f := f2 ∘ f1) (tks d t) fun k hk => (lens k (a0 k hk)).2
  rw [tks_flat d t ht] at this
  lia
 have a2 : ∀ k ∈ ((tks d t).map f1).map f2, k ∈ (allT.map f1).map f2 := fun k hk => by
  obtain ⟨u, hu, rfl⟩ := List.mem_map.mp hk
  exact List.mem_map.mpr ⟨u, a1 u hu, rfl⟩
 have e3 : tl (Txt.replace (Txt.replace (Txt.replace (tx d t) "all (" "(") "one (" "(") " of (" "(") = ((((tks d t).map f1).map f2).map f3).flatten := repl_ks (m := 111) (j := 1) (by rw [tl_of]; rfl) (fun i hi => by
  rw [tl_of, show i = 0 by lia]; simp) (fun k hk => by rw [tl_of, tl_par]; exact ex3 k (a2 k hk)) e2
 have l0 : (tx d t).length ≤ 400000 := by rw [tx_len]; lia
 refine ⟨_, _, _, if_pos (by rw [lp]; lia), if_pos (by rw [lp]; lia), if_pos (by rw [lp]; lia), fun j hj => ?_⟩
 rw [e3, ← tks_hand d t ht j hj, List.map_map, List.map_map, List.mem_flatten]
 constructor
 ·rintro ⟨u, hu, hc⟩
  obtain ⟨k, hk, rfl⟩ := List.mem_map.mp hu
  rw [← (lets k (a0 k hk) j (List.mem_range.mpr hj)).mp hc]
  exact hk
 ·intro hk
  exact ⟨_, List.mem_map.mpr ⟨_, hk, rfl⟩, (lets _ (a0 _ hk) j (List.mem_range.mpr hj)).mpr rfl⟩
end Fw.k14
namespace Fw.k14
open PySem Fw Fw.H Fw.E Fw.U
theorem drule_ok' (ns : List Int) (k : Int) (hk : 0 ≤ k ∧ k ≤ 100) (μ : Store) : ∃ (d : Nat) (t : T), d ≤ 5 ∧ IsR d t ∧ (hwd d t).length ≤ 20 ∧ fV__law_drawn_rule [.val (.lst (ns.map T.int)), .val (.int k)] μ = .ok (.val t) μ := drule_ok (F := fV__law_rule) (fun _ => rfl) ns k hk μ
theorem written_ok {d : Nat} {t : T} (ht : IsR d t) (hd : d ≤ 5) (μ : Store) : fV_hands_written 8 [.val t] μ = .ok (.val (li (hwd d t))) μ := hands_ok (F := fV_hands_written) (fun _ => rfl) d 7 t ht (by lia) hd μ
theorem text_ok {d : Nat} {t : T} (ht : IsR d t) (hd : d ≤ 5) (μ : Store) : fV__law_text 8 [.val t] μ = .ok (.val (.str (tx d t))) μ := ltext_ok (F := fV__law_text) (fun _ => rfl) d 7 t ht (by lia) hd μ
theorem fits_ok' {d : Nat} {t : T} (ht : IsR d t) (hd : d ≤ 5) (μ : Store) (v : SV) (hs : List Int) (hv : rd μ v = some (li hs)) : fV_fits 8 [.val t, v] μ = .ok (.val (.bl (fitR hs d t))) μ := fits_ok (F := fV_fits) (fun _ => rfl) d 7 t ht (by lia) μ v hs hv
theorem lhands' (c : Int) (μ : Store) : fV__law_hands [.val (.int c)] μ = .ok (.val (li (bits c))) μ := lhands_ok c μ
theorem drawn' (ns : List Int) (at_ base : Int) (n : Nat) (ha : 0 ≤ at_ ∧ at_ ≤ 1000) (hm : 0 < base) (hm2 : base < 1000000) (hn : n ≤ 1000) (μ : Store) :
  ∃ r, fV__law_drawn [.val (.lst (ns.map T.int)), .val (.int at_), .val (.int base), .val (.int n)] μ = .ok (.val (li r)) μ ∧ Rw base n r := J.drawn_ok ns at_ base n ha hm hm2 hn μ
noncomputable def due (d : Nat) (t : T) : List Int := (irange 0 10).filter fun j => decide (j ∈ hwd d t)
theorem hwd_in : ∀ (d : Nat) (t : T), IsR d t → ∀ k ∈ hwd d t, 0 ≤ k ∧ k < 10 := by
 intro d
 induction d with
 | zero => rintro t ⟨h, h0, h1, rfl⟩ k hk; rw [hwd_hnd, List.mem_singleton] at hk; subst hk; exact ⟨h0, h1⟩
 | succ d ih =>
  rintro t (⟨h, h0, h1, rfl⟩ | ⟨k, r, rs, rfl, h1, h2, h3, h4⟩) j hj
  ·rw [hwd_hnd, List.mem_singleton] at hj; subst hj; exact ⟨h0, h1⟩
  ·rw [hwd_som] at hj
   obtain ⟨x, hx, hj⟩ := List.mem_flatMap.mp hj
   exact ih x (h4 x hx) j hj
theorem due_mem {d : Nat} {t : T} (ht : IsR d t) (k : Int) : k ∈ due d t ↔ k ∈ hwd d t := by
 unfold due
 rw [List.mem_filter, decide_eq_true_eq]
 exact ⟨fun h => h.2, fun h => ⟨mem_irange.mpr (by have := hwd_in d t ht k h; simp; lia), h⟩⟩
theorem hin_due {d : Nat} {t : T} (ht : IsR d t) : sorL (dedL (hwd d t)) = due d t := by
 refine (sorL_eq ((List.perm_ext_iff_of_nodup ?_ (dedL_nodup _)).mpr fun k => ?_) ?_).symm
 ·exact List.Nodup.sublist List.filter_sublist (by decide)
 ·rw [due_mem ht, dedL_mem]
 ·exact List.Pairwise.sublist List.filter_sublist (by decide)
theorem in_rt {d : Nat} {t : T} (ht : IsR d t) (hd : d ≤ 5) (hw : (hwd d t).length ≤ 20) (μ : Store) : b_hands_in (starts 1 [.val t]) μ = .rt (.cel μ.length) (μ ++ [(true, li (due d t))]) := by
 have e := written_ok ht hd μ
 have e2 : fSortedSet (li (hwd d t)) = some (li (due d t)) := by
  unfold fSortedSet
  dsimp only
  rw [asInts_map, Option.bind_some, if_pos (by lia), hin_due ht]
 unfold b_hands_in
 simp (disch := first | decide | omega | assumption) only [stw, stc, Nat.reduceAdd, Nat.reduceSub, e, e2]
theorem inV_ok {d : Nat} {t : T} (ht : IsR d t) (hd : d ≤ 5) (hw : (hwd d t).length ≤ 20) (μ : Store) : fV_hands_in [.val t] μ = .ok (.val (li (due d t))) μ := by
 unfold fV_hands_in; rw [fnV_is, in_rt ht hd hw μ, endV_rt, F.ice_new]
theorem inD_ok {d : Nat} {t : T} (ht : IsR d t) (hd : d ≤ 5) (hw : (hwd d t).length ≤ 20) (μ : Store) : fD_hands_in [.val t] μ = .ok (.cel μ.length) (μ ++ [(true, li (due d t))]) := by
 unfold fD_hands_in; rw [fnD_is, in_rt ht hd hw μ, endD_rt, F.gc_new]
theorem fit_congr {hs hs' : List Int} : ∀ (d : Nat) (t : T), IsR d t → (∀ h ∈ hwd d t, (h ∈ hs ↔ h ∈ hs')) → fitR hs d t = fitR hs' d t := by
 intro d
 induction d with
 | zero =>
  rintro t ⟨h, h0, h1, rfl⟩ hh
  rw [fit_hnd, fit_hnd]
  exact decide_eq_decide.mpr (hh h (by rw [hwd_hnd]; simp))
 | succ d ih =>
  rintro t (⟨h, h0, h1, rfl⟩ | ⟨k, r, rs, rfl, h1, h2, h3, h4⟩) hh
  ·rw [fit_hnd, fit_hnd]
   exact decide_eq_decide.mpr (hh h (by rw [hwd_hnd]; simp))
  ·rw [fit_som, fit_som]
   have : (r :: rs).filter (fitR hs d) = (r :: rs).filter (fitR hs' d) := List.filter_congr fun x hx => ih x (h4 x hx) fun h hm => hh h (by rw [hwd_som]; exact List.mem_flatMap.mpr ⟨x, hx, hm⟩)
   rw [this]
theorem fit_due {d : Nat} {t : T} (ht : IsR d t) (hs : List Int) : fitR hs d t = fitR (hs.filter fun j => decide (j ∈ due d t)) d t := fit_congr d t ht fun h hm => by
 rw [List.mem_filter, decide_eq_true_eq, due_mem ht]
 exact ⟨fun q => ⟨q, hm⟩, fun q => q.1⟩
theorem due_comp {d : Nat} {t : T} (x3 : Str) (h : ∀ j : Nat, j < 10 → (97 + j ∈ tl x3 ↔ (j : Int) ∈ hwd d t)) (x0 x1 x2 x4 x5 x6 x7 : Option SV) (μ : Store) :
  dComp (iRange1 (dC (.int 10))) [none, some 3] (bName 0) (dBin fInS (dIdx (dC (.str "abcdefghij")) (dVar 0)) (dVar 1)) (dVar 0) [x0, x1, x2, some (.val (.str x3)), x4, x5, x6, x7] μ = .ok (.val (li (due d t))) μ := by
 have e9 : compL (fun _ => True) (bName 0) (dBin fInS (dIdx (dC (.str "abcdefghij")) (dVar 0)) (dVar 1)) (dVar 0) [none, some (.val (.str x3))] (intsT 0 (10 : Int).toNat) μ = .ok ((due d t).map T.int) μ := by
  rw [intsT_eq, compL_ints (fun j => decide (j ∈ hwd d t)) T.int trivial]
  ·rfl
  intro j hj
  have hj := mem_irange.mp hj
  have h1 : j < 10 := by simp at hj; lia
  have s1 : fInS (.str ⟨#[97 + j.toNat]⟩) (.str x3) = some (.bl (decide (j ∈ hwd d t))) := by
   show some (T.bl (!(Builtin.Str.occurrences x3 ⟨#[97 + j.toNat]⟩ 0 x3.length 1).isEmpty)) = _
   rw [StrLaws.found_one]
   have := h j.toNat (by lia)
   rw [show ((j.toNat : Nat) : Int) = j by lia] at this
   rw [decide_eq_decide.mpr this]
  refine ⟨_, rfl, ?_, fun _ => ?_⟩
  ·simp (disch := first | decide | omega | assumption) only [stw, stc, Nat.reduceAdd, Nat.reduceSub, idxS_str, item_ok hj.1 h1, s1]
  ·simp (disch := first | decide | omega | assumption) only [stw, stc, Nat.reduceAdd, Nat.reduceSub]
 have r6 : rngOk 10 = true := rngOk_of (by lia) (by lia)
 have l6 : (intsT 0 (10 : Int).toNat).length ≤ szL := by rw [intsT_eq]; unfold szL; decide
 simp (disch := first | decide | omega | assumption) only [stw, stc, Nat.reduceAdd, Nat.reduceSub, r6, e9, l6]
theorem fIn_no : ∀ l : List Int, fIn (.bl true) (.lst (l.map fun _ => T.bl false)) = some (.bl false) := by
 intro l
 have h : (l.map fun _ => T.bl false).all flatT = true := by
  rw [List.all_eq_true]
  intro x hx
  obtain ⟨_, _, rfl⟩ := List.mem_map.mp hx
  rfl
 have h2 : inT (.bl true) (l.map fun _ => T.bl false) = false := by
  induction l with
  | nil => rfl
  | cons a l ih =>
   rw [List.map_cons]
   have := ih (by rw [List.map_cons, List.all_cons] at h; exact (Bool.and_eq_true_iff.mp h).2)
   unfold inT at this ⊢
   simp only [List.any_cons, this, Bool.or_false]
   rfl
 unfold fIn
 show (if (flatT (.bl true) && (l.map fun _ => T.bl false).all flatT) = true then some (T.bl (inT (.bl true) (l.map fun _ => T.bl false))) else none) = _
 rw [h, h2]
 rfl
theorem bool_comp (l : List Int) (hl : l.length ≤ 100) (μ : Store) (k : Nat) (hk : μ[k]? = some (true, li l)) (x0 x1 x2 x3 x4 x6 x7 : Option SV) :
  dComp (iSeq (dVar 5)) [none] (bName 0) (dC (.bl true)) (dIs .bool (dVar 0)) [x0, x1, x2, x3, x4, some (.cel k), x6, x7] μ = .ok (.val (.lst (l.map fun _ => T.bl false))) μ := by
 have hrd : rd μ (.cel k) = some (li l) := by rw [rd_cel, hk]; rfl
 have hc := fun (same : Store → Prop) (hs : same μ) => compL_ofA (same := same) (b := bName 0) (d := dIs .bool (dVar 0)) (e := [none]) (μ := μ) T.int (fun _ => T.bl false) hs l fun x hx => by
  refine ⟨_, rfl, ?_⟩
  simp (disch := first | decide | omega | assumption) only [stw, stc, Nat.reduceAdd, Nat.reduceSub, dIs_is]
  rfl
 simp (disch := first | decide | omega | assumption) only [stw, stc, Nat.reduceAdd, Nat.reduceSub, hrd, seqItems]
 rw [hc]
 ·rw [R.calm_ok, R.bind_ok, if_pos (by simp [szL]; lia)]
 ·rfl
end Fw.k14
namespace Fw.k14
open PySem Fw Fw.H Fw.E Fw.U
noncomputable def inB : DS := (sSeq (sSet 7 (dCall (cal fV__law_hands) [(dVar 6)]))
 (sIf (dBin fNe (dCall (cal (fV_fits 8)) [(dVar 2), (dVar 7)]) (dCall (cal (fV_fits 8)) [(dVar 2), (dComp (iSeq (dVar 7)) [none, some 4] (bName 0) (dBin fIn (dVar 0) (dVar 1)) (dVar 0))])) (sRet (dC (.bl false))) sNil))
theorem bits_len (c : Int) : (bits c).length ≤ 10 := by
 unfold bits
 exact Nat.le_trans (List.length_filter_le _ _) (by decide)
theorem in_comp (hs dl : List Int) (hl : hs.length ≤ 100) (x0 x1 x2 x3 x5 x6 : Option SV) (μ : Store) :
  dComp (iSeq (dVar 7)) [none, some 4] (bName 0) (dBin fIn (dVar 0) (dVar 1)) (dVar 0) [x0, x1, x2, x3, some (.val (li dl)), x5, x6, some (.val (li hs))] μ = .ok (.val (li (hs.filter fun j => decide (j ∈ dl)))) μ := by
 have hc := fun (same : Store → Prop) (hs' : same μ) => compL_ints (same := same) (b := bName 0) (c := dBin fIn (dVar 0) (dVar 1)) (d := dVar 0) (e := [none, some (.val (li dl))]) (μ := μ) (fun j => decide (j ∈ dl)) T.int hs' hs fun j hj => by
  refine ⟨_, rfl, ?_, fun _ => ?_⟩
  ·simp (disch := first | decide | omega | assumption) only [stw, stc, Nat.reduceAdd, Nat.reduceSub, fIn_ints]
  ·simp (disch := first | decide | omega | assumption) only [stw, stc, Nat.reduceAdd, Nat.reduceSub]
 have hf : (hs.filter fun j => decide (j ∈ dl)).length ≤ hs.length := List.length_filter_le _ _
 simp (disch := first | decide | omega | assumption) only [stw, stc, Nat.reduceAdd, Nat.reduceSub, seqItems]
 rw [hc]
 ·rw [R.calm_ok, R.bind_ok, if_pos (by simp [szL]; lia)]
 ·trivial
theorem inB_ok {d : Nat} {t : T} (ht : IsR d t) (hd : d ≤ 5) (c : Int) (x0 x1 x3 x5 x7 : Option SV) (μ : Store) :
  inB [x0, x1, some (.val t), x3, some (.val (li (due d t))), x5, some (.val (.int c)), x7] μ = .nx [x0, x1, some (.val t), x3, some (.val (li (due d t))), x5, some (.val (.int c)), some (.val (li (bits c)))] μ := by
 have e1 := lhands' c μ
 have e2 := fits_ok' ht hd μ (.val (li (bits c))) (bits c) rfl
 have e3 := in_comp (bits c) (due d t) (by have := bits_len c; lia) x0 x1 (some (.val t)) x3 x5 (some (.val (.int c))) μ
 have e4 := fits_ok' ht hd μ (.val (li ((bits c).filter fun j => decide (j ∈ due d t)))) _ rfl
 rw [← fit_due ht (bits c)] at e4
 have c1 : (!(fitR (bits c) d t == fitR (bits c) d t)) = false := by simp
 generalize fitR (bits c) d t = B at e2 e4 c1
 unfold inB
 generalize (dComp (iSeq (dVar 7)) [none, some 4] (bName 0) (dBin fIn (dVar 0) (dVar 1)) (dVar 0)) = Z at e3 ⊢
 simp (disch := first | decide | omega | assumption) only [stw, stc, Nat.reduceAdd, Nat.reduceSub, e1, e2, e3, e4, fNe_bl, c1]
noncomputable def bodyS : DS := (sSeq (sSet 2 (dCall (cal fV__law_drawn_rule) [(dVar 0), (dBin fAdd (dC (.int 1)) (dBin fMulA (dC (.int 2)) (dVar 1)))]))
 (sSeq (sSet 3 (dUn (replT " of (" "(") (dUn (replT "one (" "(") (dUn (replT "all (" "(") (dCall (cal (fV__law_text 8)) [(dVar 2)])))))
 (sSeq (sSet 4 (dComp (iRange1 (dC (.int 10))) [none, some 3] (bName 0) (dBin fInS (dIdx (dC (.str "abcdefghij")) (dVar 0)) (dVar 1)) (dVar 0)))
 (sSeq (sSet 5 (dCall (cal fD_hands_in) [(dVar 2)]))
 (sSeq (sIf (dOr (dNot (dIs .list (dVar 5))) (dOr (dBin fNe (dVar 5) (dVar 4)) (dBin fIn (dC (.bl true)) (dComp (iSeq (dVar 5)) [none] (bName 0) (dC (.bl true)) (dIs .bool (dVar 0)))))) (sRet (dC (.bl false))) sNil)
 (sSeq (sAppend (dVar 5) (dC (.int 0)))
 (sSeq (sIf (dBin fNe (dCall (cal fV_hands_in) [(dVar 2)]) (dVar 4)) (sRet (dC (.bl false))) sNil)
 (sFor (iSeq (dCall (cal fV__law_drawn) [(dVar 0), (dBin fAdd (dC (.int 7)) (dVar 1)), (dC (.int 1024)), (dC (.int 6))])) (bName 6) inB))))))))
theorem body_ok (ns : List Int) (x2 x3 x4 x5 x6 x7 : Option SV) (c : Int) (hc : 0 ≤ c ∧ c < 3) (μ : Store) : ∃ y2 y3 y4 y5 y6 y7 μ', bodyS [some (.val (.lst (ns.map T.int))), some (.val (.int c)), x2, x3, x4, x5, x6, x7] μ = .nx [some (.val (.lst (ns.map T.int))), some (.val (.int c)), y2, y3, y4, y5, y6, y7] μ' := by
 obtain ⟨d, t, hd, ht, hw, e1⟩ := drule_ok' ns (1 + 2 * c) (by lia) μ
 have m1 : fMulA (.int 2) (.int c) = some (.int (2 * c)) := fMulA_r _ _ (by lia) (by lia)
 have e2 := text_ok ht hd μ
 obtain ⟨s1, s2, s3, r1, r2, r3, hj⟩ := signs_ok ht hd
 have e3 := due_comp (d := d) (t := t) s3 hj (some (.val (.lst (ns.map T.int)))) (some (.val (.int c))) (some (.val t)) x4 x5 x6 x7 μ
 have e4 := inD_ok ht hd hw μ
 have hdl : (due d t).length ≤ 10 := Nat.le_trans (List.length_filter_le _ _) (by decide)
 have g0 : (μ ++ [(true, li (due d t))])[μ.length]? = some (true, li (due d t)) := st_get0
 have e5 := bool_comp (due d t) (by lia) (μ ++ [(true, li (due d t))]) μ.length g0 (some (.val (.lst (ns.map T.int)))) (some (.val (.int c))) (some (.val t)) (some (.val (.str s3))) (some (.val (li (due d t)))) x6 x7
 have e6 := fIn_no (due d t)
 have e7 : fNe (li (due d t)) (li (due d t)) = some (.bl false) := by rw [fNe_ints]; simp
 have e8 : appendAt (.cel μ.length) (.int 0) (μ ++ [(true, li (due d t))]) = some (μ ++ [(true, T.lst ((due d t).map T.int ++ [.int 0]))]) := append_st0 μ [] ((due d t).map T.int) (.int 0) (by simp [szL]; lia)
 have e9 : lsts (.cel μ.length) (μ ++ [(true, li (due d t))]) = some () := lsts_st0 _ _ _ _
 have i1 : isS .list (μ ++ [(true, li (due d t))]) (.cel μ.length) = some (.bl true) := by rw [isS_cel, rd_cel, g0]; rfl
 have rd1 : rd (μ ++ [(true, li (due d t))]) (.cel μ.length) = some (li (due d t)) := by rw [rd_cel, g0]; rfl
 generalize hM : μ ++ [(true, T.lst ((due d t).map T.int ++ [.int 0]))] = M at e8
 have e10 := inV_ok ht hd hw M
 obtain ⟨bs, e11, _⟩ := drawn' ns (7 + c) 1024 6 (by lia) (by lia) (by lia) (by lia) M
 have e11 : fV__law_drawn [.val (.lst (ns.map T.int)), .val (.int (7 + c)), .val (.int 1024), .val (.int 6)] M = .ok (.val (li bs)) M := e11
 obtain ⟨e', μ', hf, y6, y7, rfl, rfl⟩ := forL_nx (same := fun _ => True) (b := bName 6) (body := inB) (ts := bs.map T.int)
  (I := fun i e μ1 => ∃ y6 y7, e = [some (.val (.lst (ns.map T.int))), some (.val (.int c)), some (.val t), some (.val (.str s3)), some (.val (li (due d t))), some (.cel μ.length), y6, y7] ∧ M = μ1)
  (fun _ _ _ _ => trivial) (fun i z e μ1 hz hI => by
   obtain ⟨y6, y7, rfl, rfl⟩ := hI
   rw [List.getElem?_map] at hz
   obtain ⟨b, _, rfl⟩ := Option.map_eq_some_iff.mp hz
   exact ⟨_, _, _, rfl, inB_ok ht hd b _ _ _ _ _ _, _, _, rfl, rfl⟩)
  (e := [some (.val (.lst (ns.map T.int))), some (.val (.int c)), some (.val t), some (.val (.str s3)), some (.val (li (due d t))), some (.cel μ.length), x6, x7]) (μ := M) ⟨x6, x7, rfl, rfl⟩
 refine ⟨some (.val t), some (.val (.str s3)), some (.val (li (due d t))), some (.cel μ.length), y6, y7, M, ?_⟩
 unfold bodyS
 generalize (dComp (iRange1 (dC (.int 10))) [none, some 3] (bName 0) (dBin fInS (dIdx (dC (.str "abcdefghij")) (dVar 0)) (dVar 1)) (dVar 0)) = Z at e3 ⊢
 generalize (dComp (iSeq (dVar 5)) [none] (bName 0) (dC (.bl true)) (dIs .bool (dVar 0))) = Y at e5 ⊢
 generalize (li (due d t)) = L at *
 simp (disch := first | decide | omega | assumption) only [stw, stc, Nat.reduceAdd, Nat.reduceSub, m1, e1, e2, r1, r2, r3, e3, e4, dIs_is, i1, g0, e7, e5, e6, e9, e8, e10, e11, hf]
theorem holds : ∀ ns : List Int, ns.length ≤ 63 → ∃ μ', fV_law [.val (.lst (ns.map T.int))] [] = .ok (.val (.bl true)) μ' := by
 intro ns _
 obtain ⟨e', μ', hf, x1, x2, x3, x4, x5, x6, x7, rfl⟩ := forL_nx (same := fun _ => True) (b := bName 1) (body := bodyS) (ts := intsT 0 (3 : Int).toNat)
  (I := fun i e μ1 => ∃ x1 x2 x3 x4 x5 x6 x7, e = [some (.val (.lst (ns.map T.int))), x1, x2, x3, x4, x5, x6, x7])
  (fun _ _ _ _ => trivial) (fun i z e μ1 hz hI => by
   obtain ⟨x1, x2, x3, x4, x5, x6, x7, rfl⟩ := hI
   obtain ⟨c, rfl, hi, hk⟩ := intsT_k hz
   have hi : i < 3 := hi
   obtain ⟨y2, y3, y4, y5, y6, y7, μ2, hb⟩ := body_ok ns x2 x3 x4 x5 x6 x7 c (by lia) μ1
   exact ⟨_, _, μ2, rfl, by simp only [List.set_cons_succ, List.set_cons_zero]; exact hb, _, y2, y3, y4, y5, y6, y7, rfl⟩)
  (e := [some (.val (.lst (ns.map T.int))), none, none, none, none, none, none, none]) (μ := []) ⟨none, none, none, none, none, none, none, rfl⟩
 have r3 : rngOk 3 = true := rngOk_of (by lia) (by lia)
 refine ⟨[], ?_⟩
 unfold fV_law
 rw [fnV_is, show b_law = sSeq (sFor (iRange1 (dC (.int 3))) (bName 1) bodyS) (sRet (dC (.bl true))) from rfl]
 simp (disch := first | decide | omega | assumption) only [stw, stc, Nat.reduceAdd, Nat.reduceSub, r3, hf]
end Fw.k14
open PySem PySem.W PyProof.Rows
set_option maxRecDepth 100000 in
set_option maxHeartbeats 0 in
theorem PySem.Challenge.cw_fewopen_k14_hands_of_rules_holds : PySem.Challenge.rw_fewopen_k14_hands_of_rules.Holds := by
 w_on; o_law; k_head; (case hw => w_witness2)
 k_fill
 refine Fw.k14.walk (l := PySem.Challenge.rw_fewopen_k14_hands_of_rules) rfl rfl Fw.k14.holds (fun w h Y => PySem.W.kIn_of Y) ?F
 case F =>
  intro w mg fa h KX G hmg
  refine' Fw.k14.all_mk KX G hmg ?a0 ?l0 ?c0 ?k0 ?a1 ?l1 ?c1 ?k1 ?a2 ?l2 ?c2 ?k2 ?a3 ?l3 ?c3 ?k3 ?a4 ?l4 ?c4 ?k4 ?a5 ?l5 ?c5 ?k5 ?a6 ?l6 ?c6 ?k6 ?a7 ?l7 ?c7 ?k7 ?a8 ?l8 ?c8 ?k8 ?a9 ?l9 ?c9 ?k9 ?a10 ?l10 ?c10 ?k10 ?z0 ?z1 ?z2 ?z3 ?z4 ?z5 ?z6 ?z7 ?z8 ?z9
  (case a0 => k_is)
  (case l0 => k_is)
  (case c0 => k_is)
  (case k0 => k_is)
  (case a1 => k_is)
  (case l1 => k_is)
  (case c1 => k_is)
  (case k1 => k_is)
  (case a2 => k_is)
  (case l2 => k_is)
  (case c2 => k_is)
  (case k2 => k_is)
  (case a3 => k_is)
  (case l3 => k_is)
  (case c3 => k_is)
  (case k3 => k_is)
  (case a4 => k_is)
  (case l4 => k_is)
  (case c4 => k_is)
  (case k4 => k_is)
  (case a5 => k_is)
  (case l5 => k_is)
  (case c5 => k_is)
  (case k5 => k_is)
  (case a6 => k_is)
  (case l6 => k_is)
  (case c6 => k_is)
  (case k6 => k_is)
  (case a7 => k_is)
  (case l7 => k_is)
  (case c7 => k_is)
  (case k7 => k_is)
  (case a8 => k_is)
  (case l8 => k_is)
  (case c8 => k_is)
  (case k8 => k_is)
  (case a9 => k_is)
  (case l9 => k_is)
  (case c9 => k_is)
  (case k9 => k_is)
  (case a10 => k_is)
  (case l10 => k_is)
  (case c10 => k_is)
  (case k10 => k_is)
  (case z0 => k_is)
  (case z1 => k_is)
  (case z2 => k_is)
  (case z3 => k_is)
  (case z4 => k_is)
  (case z5 => k_is)
  (case z6 => k_is)
  (case z7 => k_is)
  (case z8 => k_is)
  (case z9 => k_is)
