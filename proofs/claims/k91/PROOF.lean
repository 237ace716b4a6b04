import PyProof.Rows.All
import Wide.All
import OpenK.AllK
import Wide.FinOn
import Lean
import PyProof.EqAt
import PyProof.EqKinds
import PyProof.TupleCall
import PyProof.NeData
import PyProof.P3Eq
import PyProof.ConsumeWalk
import PyProof.ZipIter
import PyProof.DictItemsLoops
import KE.KDictList
import KE.KPairComp
import PyProof.Draws
import PyProof.EnumMake
import PyProof.EnumFor
import PyProof.ListRange
import PyProof.ListMulAny
import KE.KRevIter
import PyProof.Rows.SortShell
import PyProof.StrCalls2
import PyProof.StrCalls3
import PyProof.FString
import PyProof.Rows.FStr
import PyProof.CallType
import PyProof.EnumStmt
import PyProof.Rows.CallKwBuiltin
import PyProof.Rows.SetFrom
import PyProof.FactsAll.set_1
import PyProof.FactsAll.set_2
import PyProof.CollectWalk
import PyProof.TupleIter
import PyProof.ForAny
import PyProof.DictWalks
import PyProof.ListStr
import PyProof.ListNew
import PyProof.StrLaws
import PyProof.StrLawsIn
import KE.IntTextLaws
import PyProof.StrLawsTight
import PySem.Challenge.RW_fewopen_k91_tables_written
set_option compiler.extract_closed false
set_option bootstrap.genMatcherCode false
set_option genSizeOf false
set_option Elab.async false
set_option linter.all false
set_option maxRecDepth 100000
namespace L2
open PySem PySem.Spec PyProof.Rows
noncomputable abbrev Key:=Sum Int Str
noncomputable def keyIs:Key → Value → Bool
 | .inl k,v => Value.isInt k v
 | .inr x,v => Value.isStrOf x v
noncomputable def keyH (w:World):Key → Int
 | .inl k => hashInt k
 | .inr x => hashStr w x
theorem keyIs_shape:∀ {k:Key} {v:Value},keyIs k v = true → (∃ i t,k = Sum.inl i ∧ v = Value.int i t) ∨ (∃ x t,k = Sum.inr x ∧ v = Value.str x t)
 | .inl i,v,h => by
  obtain ⟨t,e⟩:=Value.isInt_shape (k:=i) (v:=v) h
  exact .inl ⟨i,t,rfl,e⟩
 | .inr x,v,h => by
  obtain ⟨t,e⟩:=Value.isStrOf_shape (x:=x) (v:=v) h
  exact .inr ⟨x,t,rfl,e⟩
theorem key_ll (a b:Int):decide ((Sum.inl a:Key) = Sum.inl b) = (a == b):=by
 by_cases e:a = b
 ·subst e; simp
 ·have h:¬ (Sum.inl a:Key) = Sum.inl b:=fun q => e (Sum.inl.inj q)
  rw [decide_eq_false h]
  exact (beq_eq_false_iff_ne.mpr e).symm
theorem key_rr (a b:Str):decide ((Sum.inr a:Key) = Sum.inr b) = decide (a = b):=by
 by_cases e:a = b
 ·subst e; simp
 ·have h:¬ (Sum.inr a:Key) = Sum.inr b:=fun q => e (Sum.inr.inj q)
  rw [decide_eq_false h,decide_eq_false e]
theorem key_lr (a:Int) (b:Str):decide ((Sum.inl a:Key) = Sum.inr b) = false:=decide_eq_false (fun q => nomatch q)
theorem key_rl (a:Str) (b:Int):decide ((Sum.inr a:Key) = Sum.inl b) = false:=decide_eq_false (fun q => nomatch q)
noncomputable def mixKind (prog:Program) (w:World):PySem.KeyKind prog w Key where
 is:=keyIs
 hash:=keyH w
 inj:=fun v a b ha hb => by
  rcases keyIs_shape ha with ⟨i,t,rfl,rfl⟩ | ⟨x,t,rfl,rfl⟩
  ·rcases keyIs_shape hb with ⟨j,u,rfl,e⟩ | ⟨y,u,rfl,e⟩
   ·injection e with e1 _; rw [e1]
   ·exact nomatch e
  ·rcases keyIs_shape hb with ⟨j,u,rfl,e⟩ | ⟨y,u,rfl,e⟩
   ·exact nomatch e
   ·injection e with e1 _; rw [e1]
 byValue:=fun k v h => by
  rcases keyIs_shape h with ⟨i,t,rfl,rfl⟩ | ⟨x,t,rfl,rfl⟩ <;> rfl
 pyHash:=fun hv h => by
  rcases keyIs_shape hv with ⟨i,t,rfl,rfl⟩ | ⟨x,t,rfl,rfl⟩
  ·exact wpAny_pyHash_int h
  ·exact wpAny_pyHash_str h
 eqBool:=fun hu hv h => by
  rcases keyIs_shape hu with ⟨i,t,rfl,rfl⟩ | ⟨x,t,rfl,rfl⟩
  ·rcases keyIs_shape hv with ⟨j,u,rfl,rfl⟩ | ⟨y,u,rfl,rfl⟩
   ·rw [key_ll] at h; exact wpAny_eqBool_int h
   ·rw [key_lr] at h; exact SeqAt.EqAt.int_str i t y u _ _ _ _ h
  ·rcases keyIs_shape hv with ⟨j,u,rfl,rfl⟩ | ⟨y,u,rfl,rfl⟩
   ·rw [key_rl] at h; exact SeqAt.EqAt.str_int x t j u _ _ _ _ h
   ·rw [key_rr] at h; exact wpAny_eqBool_str h
 «strs»:=fun k x t v h => by
  rcases keyIs_shape h with ⟨i,u,rfl,e⟩ | ⟨y,u,rfl,e⟩
  ·exact nomatch e
  ·injection e with e1 _
   subst e1
   cases v <;> rfl
end L2
namespace L2
open PySem PySem.Spec PyProof.Rows
inductive V where
 | non | bl (b:Bool) | int (i:Int) | str (x:Str) | byt (b:Array UInt8) | flt (b:UInt64) | ref (a:Addr) | ty (n:String)
 deriving DecidableEq
noncomputable def RelV:V → Value → Prop
 | .non,u => u = Value.none
 | .bl b,u => u = Value.bool b
 | .int i,u => ∃ t,u = Value.int i t
 | .str x,u => ∃ t,u = Value.str x t
 | .byt b,u => ∃ t,u = Value.bytes b t
 | .flt b,u => ∃ t,u = Value.float b t
 | .ref a,u => u = Value.ref a
 | .ty n,u => u = Value.type n
noncomputable abbrev Vals:List V → List Value → Prop:=Paired RelV
theorem Vals.length {xs:List V} {us:List Value} (r:Vals xs us):xs.length = us.length:=Paired.length r
theorem Vals.get:∀ {xs:List V} {us:List Value} {i:Nat} {x:V},Vals xs us → xs[i]? = some x → ∃ u,us[i]? = some u ∧ RelV x u
 | _,_,_,_,.nil,e => by simp at e
 | _,_,0,_,.cons r _,e => by simp at e; subst e; exact ⟨_,rfl,r⟩
 | _,_,i + 1,x,.cons _ t,e => by
  obtain ⟨u,h1,h2⟩:=Vals.get (i:=i) (x:=x) t (by simpa using e)
  exact ⟨u,by simpa using h1,h2⟩
theorem Vals.set {x:V} {u:Value} (r:RelV x u):∀ {xs:List V} {us:List Value} (i:Nat),Vals xs us → Vals (xs.set i x) (us.set i u)
 | _,_,_,.nil => .nil
 | _,_,0,.cons _ t => .cons r t
 | _,_,i + 1,.cons q t => .cons q (Vals.set r i t)
theorem Vals.append:∀ {xs ys:List V} {us ws:List Value},Vals xs us → Vals ys ws → Vals (xs ++ ys) (us ++ ws)
 | _,_,_,_,.nil,s => s
 | _,_,_,_,.cons r t,s => .cons r (Vals.append t s)
theorem Vals.take:∀ {xs:List V} {us:List Value} (n:Nat),Vals xs us → Vals (xs.take n) (us.take n)
 | _,_,0,_ => .nil
 | _,_,_ + 1,.nil => .nil
 | _,_,n + 1,.cons r t => .cons r (Vals.take n t)
theorem Vals.drop:∀ {xs:List V} {us:List Value} (n:Nat),Vals xs us → Vals (xs.drop n) (us.drop n)
 | _,_,0,r => r
 | _,_,_ + 1,.nil => .nil
 | _,_,n + 1,.cons _ t => Vals.drop n t
noncomputable def RelO:Option V → Option Value → Prop
 | some v,some u => RelV v u
 | none,none => True
 | _,_ => False
noncomputable def KV {κ:Type}:List (κ × V) → List (κ × Value) → Prop:=Paired fun (p:κ × V) (q:κ × Value) => p.1 = q.1 ∧ RelV p.2 q.2
noncomputable def kV:Key → V
 | .inl i => .int i
 | .inr x => .str x
inductive HO where
 | lst (xs:List V)
 | tup (xs:List V)
 | dK (kvs:List (Key × V)) | dT (kvs:List (List Key × V))
 | set (S:Int → Bool) (n:Nat)
 | ins (C dx:Addr) (fs:List (Str × V))
 | own (x:Addr)
 | xd (fs:List (Str × V))
 | met (f x:Addr)
 | rng (lo hi:Int)
 | frz (o:Obj) (u:HO)
 | tbl (ps:Array Value)
 | ext (φ:Heap → Prop)
noncomputable abbrev Hp:=Addr → Option HO
noncomputable def upd (H:Hp) (a:Addr) (o:HO):Hp:=fun b => if b = a then some o else H b
theorem upd_same {H:Hp} {a:Addr} {o:HO}:upd H a o a = some o:=by unfold upd; rw [if_pos rfl]
theorem upd_ne {H:Hp} {a b:Addr} {o:HO} (h:b ≠ a):upd H a o b = H b:=by unfold upd; rw [if_neg h]
theorem ne_of_none {H:Hp} {a b:Addr} {o:HO} (h:H a = some o) (h':H b = none):a ≠ b:=by
 intro e; subst e; rw [h] at h'; cases h'
section
variable (P:Program) (w:World)
noncomputable def ObjOk (H:Hp) (h:Heap) (a:Addr):HO → Prop
 | .lst xs => xs.length ≤ sizeLine ∧ ∃ (its:List Value) (n:Nat),Vals xs its ∧ h.get? a = some { cls:=.type "list",data:=.seq its.toArray n }
 | .tup xs => xs.length ≤ sizeLine ∧ ∃ its:List Value,Vals xs its ∧ IsTup h a its.toArray
 | .dK kvs => kvs.length ≤ sizeLine ∧ (a == sysModules) = false ∧ ∃ vs,KV kvs vs ∧ h.DictAt (mixKind P w) a vs vs.length
 | .dT kvs => kvs.length ≤ sizeLine ∧ (a == sysModules) = false ∧ ∃ xs:List (List Key × Addr × Value),
   Paired (fun (p:List Key × V) (q:List Key × Addr × Value) => p.1 = q.1 ∧ H q.2.1 = some (.tup (p.1.map kV)) ∧ RelV p.2 q.2.2) kvs xs ∧
   ∃ o es ep,h.get? a = some o ∧ o.ExactDict ∧ o.data = .dict es ep ∧ es.toList = xs.map (entryOfKey (tupleKind (mixKind P w))) ∧ (xs.map (·.1)).Nodup
 | .set S n => h.SetOf (intKind P w) a S n
 | .ins C dx fs => H dx = some (.own a) ∧ fs.length ≤ 1000 ∧ dx ≠ a ∧ h.get? a = some (PySem.W.instObj C dx) ∧
   ∃ mA,h.Ns1 dx mA ∧ (∀ f,RelO (fs.lookup f) (mA f)) ∧ PySem.Within mA (fs.map (·.1))
 | .own _ => ∃ o,h.get? a = some o
 | .xd fs => ∃ mA,h.Ns1 a mA ∧ ∀ f,RelO (fs.lookup f) (mA f)
 | .rng lo hi => ∃ t u v,h.get? a = some { cls:=.type "range",data:=.fields #[.int lo t,.int hi u,.int 1 v] }
 | .frz o u => h.get? a = some o ∧ ObjOk H h a u
 | .tbl ps => h.get? a = some { cls:=.none,data:=.fields ps }
 | .met f x => h.get? a = some (PySem.W.methodObj (.ref f) (.ref x))
 | .ext φ => φ h ∧ (∃ o,h.get? a = some o) ∧ ∀ h1 h2:Heap,φ h1 → (∀ o,h1.get? a = some o → h2.get? a = some o) → φ h2
noncomputable def HOk (H:Hp) (h:Heap):Prop:=∀ a o,H a = some o → ObjOk P w H h a o
end
section
variable {P:Program} {w:World} {H H':Hp} {h h':Heap} {a:Addr} {o:HO}
theorem ObjOk.lt (x:ObjOk P w H h a o):a < h.objs.size:=by
 cases o with
 | lst xs => obtain ⟨_,_,_,_,e⟩:=x; exact Heap.lt_size e
 | tup xs => obtain ⟨_,_,_,p⟩:=x; exact p.lt
 | dK kvs => obtain ⟨_,_,_,_,o,_,e,_⟩:=x; exact Heap.lt_size e
 | dT kvs => obtain ⟨_,_,_,_,o,_,_,e,_⟩:=x; exact Heap.lt_size e
 | set S n => obtain ⟨o,_,_,_,e,_⟩:=x; exact Heap.lt_size e
 | ins C dx fs => obtain ⟨_,_,_,e,_⟩:=x; exact Heap.lt_size e
 | own y => obtain ⟨_,e⟩:=x; exact Heap.lt_size e
 | xd fs => obtain ⟨_,⟨_,_,_,e,_⟩,_⟩:=x; exact Heap.lt_size e
 | rng lo hi => obtain ⟨_,_,_,e⟩:=x; exact Heap.lt_size e
 | frz ob u => obtain ⟨e,_⟩:=x; exact Heap.lt_size e
 | tbl ps => exact Heap.lt_size (show h.get? a = some _ from x)
 | met f y => exact Heap.lt_size (show h.get? a = some _ from x)
 | ext φ => obtain ⟨_,⟨_,e⟩,_⟩:=x; exact Heap.lt_size e
theorem Paired.mapP {α β:Type} {F G:α → β → Prop}:∀ {l₁:List α} {l₂:List β},Paired F l₁ l₂ → (∀ a b,F a b → G a b) → Paired G l₁ l₂
 | _,_,.nil,_ => .nil
 | _,_,.cons r t,f => .cons (f _ _ r) (Paired.mapP t f)
theorem Paired.imp' {α β:Type} {F G:α → β → Prop} (f:∀ a b,F a b → G a b) {l₁:List α} {l₂:List β} (r:Paired F l₁ l₂):Paired G l₁ l₂:=Paired.mapP r f
theorem ObjOk.stay (x:ObjOk P w H h a o) (k:∀ b u,(b = a ∨ H b = some (.own a)) → h.get? b = some u → h'.get? b = some u)
  (ho:∀ b,H b = some (.own a) → H' b = some (.own a)) (ht:∀ b xs,H b = some (.tup xs) → H' b = some (.tup xs)):ObjOk P w H' h' a o:=by
 induction o with
 | lst xs => obtain ⟨z,its,n,r,e⟩:=x; exact ⟨z,its,n,r,k _ _ (.inl rfl) e⟩
 | tup xs => obtain ⟨z,its,r,ob,e,c⟩:=x; exact ⟨z,its,r,ob,k _ _ (.inl rfl) e,c⟩
 | dK kvs => obtain ⟨z,y,vs,r,ob,es,e,c⟩:=x; exact ⟨z,y,vs,r,ob,es,k _ _ (.inl rfl) e,c⟩
 | dT kvs =>
  obtain ⟨z,y,xs,r,ob,es,ep,e,c⟩:=x
  exact ⟨z,y,xs,Paired.mapP r fun p q z => ⟨z.1,ht _ _ z.2.1,z.2.2⟩,ob,es,ep,k _ _ (.inl rfl) e,c⟩
 | set S n => obtain ⟨ob,es,ep,t,e,c⟩:=x; exact ⟨ob,es,ep,t,k _ _ (.inl rfl) e,c⟩
 | ins C dx fs =>
  obtain ⟨d,z,ne,e,mA,⟨od,es,ep,e2,c⟩,r⟩:=x
  exact ⟨ho _ d,z,ne,k _ _ (.inl rfl) e,mA,⟨od,es,ep,k _ _ (.inr d) e2,c⟩,r⟩
 | own y => obtain ⟨ob,e⟩:=x; exact ⟨ob,k _ _ (.inl rfl) e⟩
 | xd fs => obtain ⟨mA,⟨od,es,ep,e,c⟩,r⟩:=x; exact ⟨mA,⟨od,es,ep,k _ _ (.inl rfl) e,c⟩,r⟩
 | rng lo hi => obtain ⟨t,u,v,e⟩:=x; exact ⟨t,u,v,k _ _ (.inl rfl) e⟩
 | frz ob u ih => obtain ⟨e,q⟩:=x; exact ⟨k _ _ (.inl rfl) e,ih q⟩
 | tbl ps =>
  have e:h.get? a = some { cls:=.none,data:=.fields ps }:=x
  show h'.get? a = some { cls:=.none,data:=.fields ps }
  exact k a _ (.inl rfl) e
 | met f y =>
  have e:h.get? a = some (PySem.W.methodObj (.ref f) (.ref y)):=x
  show h'.get? a = some (PySem.W.methodObj (.ref f) (.ref y))
  exact k a _ (.inl rfl) e
 | ext φ => obtain ⟨p,⟨o,e⟩,st⟩:=x; exact ⟨st _ _ p fun o q => k _ _ (.inl rfl) q,⟨o,k _ _ (.inl rfl) e⟩,st⟩
theorem HOk.lt (x:HOk P w H h) (e:H a = some o):a < h.objs.size:=(x a o e).lt
theorem HOk.fresh (x:HOk P w H h) (e:h.objs.size ≤ a):H a = none:=by
 cases q:H a with
 | none => rfl
 | some u => exact absurd (Nat.lt_of_lt_of_le (x.lt q) e) (Nat.lt_irrefl _)
theorem HOk.kept (x:HOk P w H h) (k:∀ b u,h.get? b = some u → h'.get? b = some u):HOk P w H h':=fun a o e =>
 (x a o e).stay (fun b u _ q => k b u q) (fun _ q => q) fun _ _ q => q
theorem HOk.laid (x:HOk P w H h) (k:∀ b u,h.get? b = some u → h'.get? b = some u) (hp:h.objs.size ≤ a) (new:ObjOk P w (upd H a o) h' a o):HOk P w (upd H a o) h':=fun b u e => by
 have hn:=x.fresh hp
 by_cases hb:b = a
 ·subst hb; rw [upd_same] at e; cases e; exact new
 ·rw [upd_ne hb] at e
  exact (x b u e).stay (fun c v _ q => k c v q) (fun c q => by rw [upd_ne (ne_of_none q hn)]; exact q) fun c xs q => by rw [upd_ne (ne_of_none q hn)]; exact q
end
noncomputable def Rd (H:Hp) (a:Addr) (u:HO):Prop:=H a = some u ∨ ∃ o,H a = some (.frz o u)
theorem Rd.ok {P:Program} {w:World} {H:Hp} {h:Heap} {a:Addr} {u:HO} (r:Rd H a u) (x:HOk P w H h):ObjOk P w H h a u:=by
 rcases r with r | ⟨o,r⟩
 ·exact x a u r
 ·obtain ⟨_,q⟩:=x a _ r
  exact q
noncomputable def Mut:Option HO → Prop
 | some (.lst _) => True
 | some (.dK _) => True
 | some (.dT _) => True
 | some (.set _ _) => True
 | some (.ins _ _ _) => True
 | some (.ext _) => True
 | _ => False
section
variable {P:Program} {w:World} {H:Hp} {h h':Heap} {x e:Addr} {o':HO}
theorem HOk.write (ok:HOk P w H h) (mu:Mut (H x)) (he:e = x ∨ H e = some (.own x)) (k:∀ b u,b ≠ e → h.get? b = some u → h'.get? b = some u) (heo:∃ u,h'.get? e = some u)
  (new:ObjOk P w (upd H x o') h' x o'):HOk P w (upd H x o') h':=fun b u q => by
 have nown:∀ c y,H c = some (.own y) → c ≠ x:=fun c y r z => by subst z; rw [r] at mu; exact mu
 have ntup:∀ c xs,H c = some (.tup xs) → c ≠ x:=fun c xs r z => by subst z; rw [r] at mu; exact mu
 by_cases hb:b = x
 ·subst hb; rw [upd_same] at q; cases q; exact new
 ·rw [upd_ne hb] at q
  by_cases hbe:b = e
  ·have q':H b = some (.own x):=by
    rcases he with z | z
    ·exact absurd (hbe.trans z) hb
    ·rw [hbe]; exact z
   rw [q] at q'; cases q'
   obtain ⟨v,hv⟩:=heo
   exact ⟨v,by rw [hbe]; exact hv⟩
  ·refine (ok b u q).stay (fun c v hc r => k c v ?_ r) (fun c r => by rw [upd_ne (nown c b r)]; exact r) fun c xs r => by rw [upd_ne (ntup c xs r)]; exact r
   rcases hc with rfl | hc
   ·exact hbe
   ·rintro rfl
    rcases he with z | z
    ·exact nown c b hc z
    ·rw [hc] at z; cases z; exact hb rfl
end
structure Un (fs ex:List Addr) (H H':Hp) (h h':Heap):Prop where
 keep:∀ b o,h.get? b = some o → H b = none → b ∉ fs → b ∉ ex → h'.get? b = some o
 slot:∀ b o,h.get? b = some o → H b = none → b ∈ fs → b ∉ ex → ∃ sl,h'.get? b = some { o with slots:=sl }
 free:∀ b o,h.get? b = some o → H b = none → b ∉ ex → H' b = none
 there:∀ b o,h.get? b = some o → b ∉ ex → ∃ o',h'.get? b = some o'
 tups:∀ b xs,H b = some (.tup xs) → H' b = some (.tup xs)
 frzs:∀ b o u,H b = some (.frz o u) → H' b = some (.frz o u)
 tbls:∀ b ps,H b = some (.tbl ps) → ∃ more,H' b = some (.tbl (ps ++ more))
section
variable {fs fs' ex ex':List Addr} {H H1 H2:Hp} {h h1 h2 h':Heap} {a x e:Addr} {o:HO}
theorem Un.any (u:Un fs ex H H1 h h1) {b:Addr} {ob:Obj} (q:h.get? b = some ob) (n:H b = none) (hx:b ∉ ex):∃ sl,h1.get? b = some { ob with slots:=sl }:=by
 by_cases hb:b ∈ fs
 ·exact u.slot b ob q n hb hx
 ·exact ⟨ob.slots,u.keep b ob q n hb hx⟩
theorem Un.kept (k:∀ b u,h.get? b = some u → h'.get? b = some u):Un fs ex H H h h' :=
 ⟨fun b ob q _ _ _ => k b ob q,fun b ob q _ _ _ => ⟨ob.slots,k b ob q⟩,fun _ _ _ n _ => n,fun b ob q _ => ⟨ob,k b ob q⟩,fun _ _ q => q,fun _ _ _ q => q,fun _ ps q => ⟨#[],by rw [q]; simp⟩⟩
theorem Un.refl:Un fs ex H H h h:=Un.kept fun _ _ q => q
theorem Un.laid (k:∀ b u,h.get? b = some u → h'.get? b = some u) (hp:h.objs.size ≤ a) (hn:H a = none):Un fs ex H (upd H a o) h h' where
 keep:=fun b u q _ _ _ => k b u q
 slot:=fun b u q _ _ _ => ⟨u.slots,k b u q⟩
 free:=fun b u q n _ => by rw [upd_ne (Nat.ne_of_lt (Nat.lt_of_lt_of_le (Heap.lt_size q) hp))]; exact n
 there:=fun b u q _ => ⟨u,k b u q⟩
 tups:=fun b xs q => by rw [upd_ne (ne_of_none q hn)]; exact q
 frzs:=fun b u xs q => by rw [upd_ne (ne_of_none q hn)]; exact q
 tbls:=fun b ps q => ⟨#[],by rw [upd_ne (ne_of_none q hn),q]; simp⟩
theorem Un.write (mu:Mut (H x)) (he:e = x ∨ H e = some (.own x)) (k:∀ b u,b ≠ e → h.get? b = some u → h'.get? b = some u) (heo:∃ u,h'.get? e = some u):Un fs ex H (upd H x o) h h':=by
 have hx:∀ b,H b = none → b ≠ x:=fun b n z => by subst z; rw [n] at mu; exact mu
 have hb:∀ b,H b = none → b ≠ e:=fun b n z => by
  subst z
  rcases he with r | r
  ·exact hx b n r
  ·rw [n] at r; cases r
 have hm:∀ b u,H b = some u → ¬ Mut (some u) → b ≠ x:=fun b u q nm z => by subst z; rw [q] at mu; exact nm mu
 refine ⟨fun b u q n _ _ => k b u (hb b n) q,fun b u q n _ _ => ⟨u.slots,k b u (hb b n) q⟩,fun b u q n _ => by rw [upd_ne (hx b n)]; exact n,fun b u q _ => ?_,
  fun b xs q => by rw [upd_ne (hm b _ q fun z => z)]; exact q,fun b u xs q => by rw [upd_ne (hm b _ q fun z => z)]; exact q,fun b ps q => ⟨#[],by rw [upd_ne (hm b _ q fun z => z),q]; simp⟩⟩
 by_cases hbe:b = e
 ·subst hbe; exact heo
 ·exact ⟨u,k b u hbe q⟩
end
noncomputable def trk (h:Heap) (H:Hp):List Addr:=(List.range h.objs.size).filter fun a => (H a).isSome
noncomputable def hidT (h:Heap) (H:Hp):Heap:=PySem.W.hideAll h (trk h H)
theorem hidT_size (h:Heap) (H:Hp):(hidT h H).objs.size = h.objs.size:=PySem.W.hideAll_size _ _
theorem hidT_get {h:Heap} {H:Hp} {b:Addr} {o:Obj} (e:h.get? b = some o) (n:H b = none):(hidT h H).get? b = some o :=
 PySem.W.hideAll_get _ e fun hm => by
  have q:(H b).isSome = true:=(List.mem_filter.mp hm).2
  rw [n] at q; simp at q
theorem of_hidT {h:Heap} {H:Hp} {b:Addr} {o:Obj} (e:(hidT h H).get? b = some o):h.get? b = some o ∧ H b = none:=by
 have e':h.get? b = some o:=PySem.W.of_hideAll (trk h H) e
 refine ⟨e',?_⟩
 cases q:H b with
 | none => rfl
 | some x =>
  have hm:b ∈ trk h H:=List.mem_filter.mpr ⟨List.mem_range.mpr (Heap.lt_size e'),by simp [q]⟩
  have z:(hidT h H).get? b = none:=PySem.W.hideAll_none (trk h H) hm
  rw [z] at e; cases e
end L2
namespace L2
open PySem PySem.Spec PyProof.Rows
structure Mod (K:PySem.W.Frag) (mg:Str → Option Value) (base:Heap):Prop where
 kin:K.In base
 glob:base.Ns mainGlobals mg
 blt:∃ mb,base.Ns builtinsNs mb ∧ ∀ x:Str,x ≠ "__name__" → mb x = bootBuiltins x
 nolimit:base.NoLimit
/-- the context: a def's body (or a comprehension's block) running. base: fixed through the whole law; s₀,H₀: the entry; outer: the frames whose slots others may change (a def's callers); stack: all frames that run;
  ex: iterators that were made ahead of the entry and are walked here (a comprehension's); fn: the names whose cells were made at the entry (a def: all; a comprehension's block: its own); calm: not within an except suite; pn: pins that every state bears; xe: what is wanted of an exception that leaves the code -/
structure Cx where
 prog:Program
 w:World
 K:PySem.W.Frag
 mg:Str → Option Value
 base:Heap
 A:Around
 N:List Str
 s₀:Shared
 H₀:Hp
 env:Env
 outer:List Env
 stack:List Env
 ex:List Addr
 fn:Str → Bool
 calm:Bool
 pn:List (Addr × Obj)
 xe:Value → Shared → Prop
noncomputable def frs (l:List Env):List Addr:=l.filterMap (·.frame)
noncomputable abbrev Cx.fs (X:Cx):List Addr:=frs X.outer
noncomputable def Vis (sc:Scope) (x:Str):Prop:=sc.names.lookup x = some .local ∨ sc.names.lookup x = some .cell ∨ sc.names.lookup x = some .free
noncomputable def Loc (sc:Scope) (x:Str):Prop:=sc.names.lookup x = some .local ∨ sc.names.lookup x = some .cell
noncomputable def Look (env:Env) (h:Heap) (m:Str → Option Value) (x:Str) (u:Value):Prop :=
 (env.kindOf x = some .local ∧ m x = some u) ∨ ((env.kindOf x = some .cell ∨ env.kindOf x = some .free) ∧ ∃ c,env.cells.lookup x = some c ∧ h.IsCell c (some u))
structure Cx.Ok (X:Cx):Prop where
 mod:Mod X.K X.mg X.base
 kind:X.env.scope.kind = .function
 glob:X.env.globals = mainGlobals
 blt:X.env.builtins = builtinsNs
 above:X.s₀.heap.objs.size ≤ X.env.locals
 inj:∀ x y c,X.env.cells.lookup x = some c → X.env.cells.lookup y = some c → x = y
 has:∀ x,(X.env.kindOf x = some .cell ∨ X.env.kindOf x = some .free) → ∃ c,X.env.cells.lookup x = some c
 cab:∀ x c,X.fn x = true → X.env.cells.lookup x = some c → X.s₀.heap.objs.size ≤ c
 hd:X.calm = true → X.A.handled = none
 frames:X.A.frames = some X.stack
 stk:X.stack = X.outer ∨ (X.stack = X.env :: X.outer ∧ X.env.frame = some X.env.locals)
 exf:∀ b ∈ X.ex,b ≠ X.env.locals ∧ ∀ x c,X.env.cells.lookup x = some c → c ≠ b
 bs:∀ b o,X.base.get? b = some o → X.s₀.heap.get? b = some o ∧ X.H₀ b = none
 bsz:X.base.objs.size ≤ X.s₀.heap.objs.size
 noex:∀ b o,X.base.get? b = some o → b ∉ X.ex
 exfs:∀ b ∈ X.ex,b ∉ X.fs
 funs:X.s₀.heap.FunFrames X.base X.outer
 frf:∀ b ∈ X.fs,X.H₀ b = none
structure Inv (X:Cx) (pins:List (Addr × Obj)) (σ:List (Option V)) (H:Hp) (s:Shared):Prop where
 ok:X.Ok
 os:s.os = X.s₀.os
 bare:AllBare s.gens
 base:Un X.fs X.ex X.H₀ H X.s₀.heap s.heap
 loc:∃ m,s.heap.Ns X.env.locals m ∧ ∀ (i:Nat) (x:Str) (v:V),X.N[i]? = some x → σ[i]? = some (some v) → Vis X.env.scope x → ∃ u,RelV v u ∧ Look X.env s.heap m x u
 cell:∀ x c,X.env.cells.lookup x = some c → ∃ v,s.heap.IsCell c v
 free:H X.env.locals = none
 freeC:∀ x c,X.env.cells.lookup x = some c → H c = none
 pin:∀ p ∈ X.pn ++ pins,s.heap.get? p.1 = some p.2 ∧ H p.1 = none ∧ p.1 ≠ X.env.locals ∧ p.1 ∉ X.fs ∧ ∀ v,p.2.data ≠ .cell v
 hok:HOk X.prog X.w H s.heap
 len:σ.length = X.N.length
section
variable {X:Cx} {pins:List (Addr × Obj)} {σ:List (Option V)} {H H':Hp} {s:Shared} {h':Heap}
theorem Cx.Ok.nofr (ok:X.Ok) {b:Addr} {o:Obj} (e:X.base.get? b = some o):b ∉ X.fs:=fun hb => by
 have:=(ok.funs.mem hb).1
 rw [e] at this; cases this
theorem Inv.bs (I:Inv X pins σ H s):∀ b o,X.base.get? b = some o → s.heap.get? b = some o ∧ H b = none:=fun b o e =>
 ⟨I.base.keep b o (I.ok.bs b o e).1 (I.ok.bs b o e).2 (I.ok.nofr e) (I.ok.noex b o e),I.base.free b o (I.ok.bs b o e).1 (I.ok.bs b o e).2 (I.ok.noex b o e)⟩
theorem Inv.bk (I:Inv X pins σ H s):∀ b o,X.base.get? b = some o → s.heap.get? b = some o:=fun b o e => (I.bs b o e).1
theorem Inv.mod (I:Inv X pins σ H s):Mod X.K X.mg X.base:=I.ok.mod
theorem Inv.kIn (I:Inv X pins σ H s):X.K.In s.heap:=I.ok.mod.kin.keeps I.bk
theorem Inv.nolimit (I:Inv X pins σ H s):s.heap.NoLimit:=I.ok.mod.nolimit.keeps I.bk
theorem Inv.fr (I:Inv X pins σ H s):∃ m,Fr X.base X.env.locals s.heap m :=
 let ⟨m,hn,_⟩:=I.loc
 ⟨m,hn,I.bk,Nat.le_trans I.ok.bsz I.ok.above⟩
theorem Inv.lt (I:Inv X pins σ H s):X.env.locals < s.heap.objs.size:=let ⟨_,hn,_⟩:=I.loc; hn.lt
theorem Inv.sz (I:Inv X pins σ H s):X.s₀.heap.objs.size ≤ s.heap.objs.size:=Nat.le_trans I.ok.above (Nat.le_of_lt I.lt)
theorem Inv.nofs (I:Inv X pins σ H s) {a:Addr} (h:s.heap.objs.size ≤ a):a ∉ X.fs:=fun hb => by
 obtain ⟨_,o,ho,_⟩:=I.ok.funs.mem hb
 exact absurd (Nat.lt_of_lt_of_le (Heap.lt_size ho) (Nat.le_trans I.sz h)) (Nat.lt_irrefl _)
theorem Inv.cne (I:Inv X pins σ H s):∀ x c,X.env.cells.lookup x = some c → c ≠ X.env.locals:=fun x c e z => by
 obtain ⟨v,o,ho,hd⟩:=I.cell x c e
 obtain ⟨m,⟨o',es,ep,ho',hd',_⟩,_⟩:=I.loc
 rw [z,ho'] at ho; cases ho; rw [hd'] at hd; cases hd
theorem Inv.funs (I:Inv X pins σ H s):s.heap.FunFrames X.base X.outer:=by
 have all:∀ (l:List Env),(∀ b ∈ frs l,b ∈ X.fs) → X.s₀.heap.FunFrames X.base l → s.heap.FunFrames X.base l:=by
  intro l
  induction l with
  | nil => intro _ _; trivial
  | cons env r ih =>
   intro hs hl
   obtain ⟨hk,⟨L,o,hf,hn,ho,hd⟩,hr⟩:=hl
   have hL:L ∈ X.fs:=hs L (by unfold frs; rw [List.filterMap_cons,hf]; exact List.mem_cons_self)
   obtain ⟨sl,e⟩:=I.base.slot L o ho (I.ok.frf L hL) hL fun z => I.ok.exfs L z hL
   exact ⟨hk,⟨L,_,hf,hn,e,hd⟩,ih (fun b hb => hs b (by unfold frs; rw [List.filterMap_cons,hf]; exact List.mem_cons_of_mem _ hb)) hr⟩
 exact all X.outer (fun _ hb => hb) I.ok.funs
theorem Inv.stack (I:Inv X pins σ H s):s.heap.FunFrames X.base X.stack:=by
 rcases I.ok.stk with e | ⟨e,hf⟩
 ·rw [e]; exact I.funs
 ·rw [e]
  obtain ⟨m,hn,_⟩:=I.loc
  refine .cons (by rw [I.ok.kind]; decide) hf hn ?_ I.funs
  exact Heap.get?_none_of_le (Nat.le_trans I.ok.bsz I.ok.above)
theorem Inv.stkSub (I:Inv X pins σ H s):∀ b ∈ frs X.stack,b ∈ X.env.locals :: X.fs:=fun b hb => by
 rcases I.ok.stk with e | ⟨e,hf⟩
 ·rw [e] at hb; exact List.mem_cons_of_mem _ hb
 ·rw [e] at hb
  unfold frs at hb
  rw [List.filterMap_cons,hf] at hb
  exact hb
theorem Inv.stkFree (I:Inv X pins σ H s):∀ b ∈ frs X.stack,H b = none:=fun b hb => by
 rcases List.mem_cons.mp (I.stkSub b hb) with e | hb
 ·rw [e]; exact I.free
 ·obtain ⟨_,o,ho,_⟩:=I.ok.funs.mem hb
  exact I.base.free b o ho (I.ok.frf b hb) fun z => I.ok.exfs b z hb
theorem Inv.step {g':Array GenState} {t':Nat} {d':Drawn} {ch:List Addr} (I:Inv X pins σ H s)
  (hch:∀ b ∈ ch,(b ∈ X.ex ∨ X.s₀.heap.objs.size ≤ b) ∧ b ≠ X.env.locals ∧ (∀ x c,X.env.cells.lookup x = some c → c ≠ b) ∧ ∀ p ∈ X.pn ++ pins,p.1 ≠ b)
  (keep:∀ b o,b ≠ X.env.locals → b ∉ X.fs → b ∉ ch → s.heap.get? b = some o → H b = none → h'.get? b = some o)
  (slot:∀ b o,b ≠ X.env.locals → b ∈ X.fs → b ∉ ch → s.heap.get? b = some o → H b = none → ∃ sl,h'.get? b = some { o with slots:=sl }) (free:∀ b o,b ∉ ch → s.heap.get? b = some o → H b = none → H' b = none)
  (there:∀ b o,b ∉ ch → s.heap.get? b = some o → ∃ o',h'.get? b = some o')
  (tups:∀ b xs,H b = some (.tup xs) → H' b = some (.tup xs)) (frzs:∀ b o u,H b = some (.frz o u) → H' b = some (.frz o u)) (tbls:∀ b ps,H b = some (.tbl ps) → ∃ more,H' b = some (.tbl (ps ++ more)))
  (ns:∀ m,s.heap.Ns X.env.locals m → h'.Ns X.env.locals m) (hok:HOk X.prog X.w H' h') (hg:AllBare g') :
  Inv X pins σ H' { s with heap:=h',gens:=g',drawn:=d',toks:=t' }:=by
 have neL:∀ b o,X.s₀.heap.get? b = some o → b ≠ X.env.locals:=fun b o e => Nat.ne_of_lt (Nat.lt_of_lt_of_le (Heap.lt_size e) I.ok.above)
 have neC:∀ b o,X.s₀.heap.get? b = some o → b ∉ X.ex → b ∉ ch:=fun b o e hx hb => by
  rcases (hch b hb).1 with z | z
  ·exact hx z
  ·exact absurd (Nat.lt_of_lt_of_le (Heap.lt_size e) z) (Nat.lt_irrefl _)
 have cellK:∀ x c,X.env.cells.lookup x = some c → ∀ v,s.heap.IsCell c v → h'.IsCell c v:=fun x c e v hX11_ => by
  obtain ⟨o,ho,hd⟩:=hX11_
  have nch:c ∉ ch:=fun z => (hch c z).2.2.1 x c e rfl
  by_cases hc:c ∈ X.fs
  ·obtain ⟨sl,q⟩:=slot c o (I.cne x c e) hc nch ho (I.freeC x c e)
   exact ⟨_,q,hd⟩
  ·exact ⟨o,keep c o (I.cne x c e) hc nch ho (I.freeC x c e),hd⟩
 refine ⟨I.ok,I.os,hg,⟨fun b o e n hb hx => ?_,fun b o e n hb hx => ?_,fun b o e n hx => ?_,fun b o e hx => ?_,fun b xs e => tups b xs (I.base.tups b xs e),fun b o xs e => frzs b o xs (I.base.frzs b o xs e),fun b ps e => ?_⟩,?_,fun x c e => ?_,?_,fun x c e => ?_,fun p hp => ?_,hok,I.len⟩
 ·exact keep b o (neL b o e) hb (neC b o e hx) (I.base.keep b o e n hb hx) (I.base.free b o e n hx)
 ·obtain ⟨sl,e1⟩:=I.base.slot b o e n hb hx
  obtain ⟨sl',e2⟩:=slot b _ (neL b o e) hb (neC b o e hx) e1 (I.base.free b o e n hx)
  exact ⟨sl',e2⟩
 ·obtain ⟨o',e1⟩:=I.base.there b o e hx
  exact free b o' (neC b o e hx) e1 (I.base.free b o e n hx)
 ·obtain ⟨o',e1⟩:=I.base.there b o e hx
  exact there b o' (neC b o e hx) e1
 ·obtain ⟨m1,e1⟩:=I.base.tbls b ps e
  obtain ⟨m2,e2⟩:=tbls b _ e1
  exact ⟨m1 ++ m2,by rw [e2,Array.append_assoc]⟩
 ·obtain ⟨m,hn,hl⟩:=I.loc
  refine ⟨m,ns m hn,fun i x v e1 e2 e3 => ?_⟩
  obtain ⟨u,r,l⟩:=hl i x v e1 e2 e3
  refine ⟨u,r,?_⟩
  rcases l with l | ⟨k,c,e,z⟩
  ·exact .inl l
  ·exact .inr ⟨k,c,e,cellK x c e _ z⟩
 ·obtain ⟨v,z⟩:=I.cell x c e
  exact ⟨v,cellK x c e v z⟩
 ·obtain ⟨m,⟨o,_,_,ho,_⟩,_⟩:=I.loc
  exact free _ o (fun z => (hch _ z).2.1 rfl) ho I.free
 ·obtain ⟨v,o,ho,hd⟩:=I.cell x c e
  exact free c o (fun z => (hch c z).2.2.1 x c e rfl) ho (I.freeC x c e)
 ·obtain ⟨e,n,ne,nf,d⟩:=I.pin p hp
  have nch:p.1 ∉ ch:=fun z => (hch p.1 z).2.2.2 p hp rfl
  exact ⟨keep p.1 p.2 ne nf nch e n,free p.1 p.2 nch e n,ne,nf,d⟩
theorem Inv.un {t':Nat} (I:Inv X pins σ H s) (u:Un X.fs [] H H' s.heap h') (hok:HOk X.prog X.w H' h'):Inv X pins σ H' { s with heap:=h',toks:=t' }:=by
 obtain ⟨m,⟨o,es,ep,ho,r⟩,_⟩:=id I.loc
 obtain ⟨sl,hL⟩:=u.any ho I.free (by simp)
 exact I.step (g':=s.gens) (d':=s.drawn) (ch:=[]) (fun _ z => nomatch z) (fun b o _ hb _ e n => u.keep b o e n hb (by simp)) (fun b o _ hb _ e n => u.slot b o e n hb (by simp)) (fun b o _ e n => u.free b o e n (by simp)) (fun b o _ e => u.there b o e (by simp)) u.tups u.frzs u.tbls (fun m' hm => by
  obtain ⟨o',es',ep',ho',r'⟩:=hm
  rw [ho] at ho'; cases ho'
  exact ⟨_,es',ep',hL,r'⟩) hok I.bare
theorem Inv.call {g':Array GenState} {t':Nat} {d':Drawn} {ch:List Addr} (I:Inv X pins σ H s) (u:Un (frs X.stack) ch H H' s.heap h') (hok:HOk X.prog X.w H' h') (hg:AllBare g')
  (hch:∀ b ∈ ch,(b ∈ X.ex ∨ X.s₀.heap.objs.size ≤ b) ∧ b ≠ X.env.locals ∧ (∀ x c,X.env.cells.lookup x = some c → c ≠ b) ∧ ∀ p ∈ X.pn ++ pins,p.1 ≠ b) :
  Inv X pins σ H' { s with heap:=h',gens:=g',drawn:=d',toks:=t' }:=by
 obtain ⟨m,⟨o,es,ep,ho,r⟩,_⟩:=id I.loc
 obtain ⟨sl,hL⟩:=u.any ho I.free fun z => (hch _ z).2.1 rfl
 exact I.step (ch:=ch) hch (fun b o hL hb hc e n => u.keep b o e n (fun z => (List.mem_cons.mp (I.stkSub b z)).elim hL hb) hc) (fun b o _ _ hc e n => u.any e n hc) (fun b o hc e n => u.free b o e n hc) (fun b o hc e => u.there b o e hc) u.tups u.frzs u.tbls (fun m' hm => by
  obtain ⟨o',es',ep',ho',r'⟩:=hm
  rw [ho] at ho'; cases ho'
  exact ⟨_,es',ep',hL,r'⟩) hok hg
theorem Inv.turned {t':Nat} {it:Addr} (I:Inv X pins σ H s) (k:∀ b o,b ≠ it → s.heap.get? b = some o → h'.get? b = some o) (hn:H it = none) (hL:it ≠ X.env.locals)
  (h1:it ∈ X.ex ∨ X.s₀.heap.objs.size ≤ it) (h2:∀ x c,X.env.cells.lookup x = some c → c ≠ it) (h3:∀ p ∈ X.pn ++ pins,p.1 ≠ it):Inv X pins σ H { s with heap:=h',toks:=t' }:=by
 have nit:∀ b u,H b = some u → b ≠ it:=fun b u e z => by rw [z,hn] at e; cases e
 refine I.step (g':=s.gens) (d':=s.drawn) (ch:=[it]) (fun b hb => ?_) (fun b o _ _ hc e _ => k b o (fun z => hc (by simp [z])) e) (fun b o _ _ hc e _ => ⟨o.slots,k b o (fun z => hc (by simp [z])) e⟩) (fun _ _ _ _ n => n)
  (fun b o hc e => ⟨o,k b o (fun z => hc (by simp [z])) e⟩) (fun _ _ e => e) (fun _ _ _ e => e) (fun b ps e => ⟨#[],by rw [e]; simp⟩) (fun m hm => ?_) (fun b u e => ?_) I.bare
 ·have e:b = it:=by simpa using hb
  subst e
  exact ⟨h1,hL,h2,h3⟩
 ·obtain ⟨o,es,ep,ho,r⟩:=hm
  exact ⟨o,es,ep,k _ o (Ne.symm hL) ho,r⟩
 ·refine (I.hok b u e).stay (fun c v hc q => k c v ?_ q) (fun _ q => q) fun _ _ q => q
  rcases hc with z | z
  ·rw [z]; exact nit b u e
  ·exact nit c _ z
theorem Inv.tok (I:Inv X pins σ H s) (t:Nat):Inv X pins σ H { s with toks:=t }:=I.un (h':=s.heap) (t':=t) Un.refl I.hok
theorem Inv.kept {t':Nat} (I:Inv X pins σ H s) (k:∀ b u,s.heap.get? b = some u → h'.get? b = some u):Inv X pins σ H { s with heap:=h',toks:=t' }:=I.un (Un.kept k) (I.hok.kept k)
theorem Inv.laid {a:Addr} {o:HO} {t':Nat} (I:Inv X pins σ H s) (k:∀ b u,s.heap.get? b = some u → h'.get? b = some u) (hp:s.heap.objs.size ≤ a) (new:ObjOk X.prog X.w (upd H a o) h' a o) :
  Inv X pins σ (upd H a o) { s with heap:=h',toks:=t' }:=I.un (Un.laid k hp (I.hok.fresh hp)) (I.hok.laid k hp new)
theorem Inv.write {x e:Addr} {o:HO} {t':Nat} (I:Inv X pins σ H s) (mu:Mut (H x)) (he:e = x ∨ H e = some (.own x)) (k:∀ b u,b ≠ e → s.heap.get? b = some u → h'.get? b = some u) (heo:∃ u,h'.get? e = some u)
  (new:ObjOk X.prog X.w (upd H x o) h' x o):Inv X pins σ (upd H x o) { s with heap:=h',toks:=t' }:=I.un (Un.write mu he k heo) (I.hok.write mu he k heo new)
theorem Inv.pins_of {pins':List (Addr × Obj)} (I:Inv X pins σ H s) (h:∀ p ∈ pins',s.heap.get? p.1 = some p.2 ∧ H p.1 = none ∧ p.1 ≠ X.env.locals ∧ p.1 ∉ X.fs ∧ ∀ v,p.2.data ≠ .cell v):Inv X pins' σ H s :=
 ⟨I.ok,I.os,I.bare,I.base,I.loc,I.cell,I.free,I.freeC,fun p hp => (List.mem_append.mp hp).elim (fun z => I.pin p (List.mem_append_left _ z)) (h p),I.hok,I.len⟩
theorem nodup_ix {N:List Str} (hN:N.Nodup) {i j:Nat} {x:Str} (a:N[i]? = some x) (b:N[j]? = some x):i = j:=by
 obtain ⟨h1,e1⟩:=List.getElem?_eq_some_iff.mp a
 obtain ⟨h2,e2⟩:=List.getElem?_eq_some_iff.mp b
 exact (List.getElem_inj hN).mp (e1.trans e2.symm)
theorem store_ok2 {M:Model} {A:Around} {E:Value → Shared → Prop} {i:Nat} {x:Str} {v:V} {u:Value} {Q:Unit → Shared → Prop} (I:Inv X pins σ H s) (hN:X.N.Nodup) (hi:X.N[i]? = some x) (hx:Loc X.env.scope x) (r:RelV v u)
  (h:∀ s',Inv X pins (σ.set i (some v)) H s' → (∃ a,Heap.SameBut a s.heap s'.heap ∧ (a = X.env.locals ∨ X.env.cells.lookup x = some a)) → Q () s') (hf:X.fn x = true ∨ X.env.scope.names.lookup x = some .local:=by first | exact .inl rfl | exact .inr rfl | assumption):wpAny M A (storeName X.env x u) Q E s:=by
 obtain ⟨m,hn,hl⟩:=id I.loc
 have hcls:(X.env.scope.kind == .class || (X.env.scope.kind == .module && X.env.locals != X.env.globals)) = false:=by rw [I.ok.kind]; rfl
 have hiσ:i < σ.length:=by rw [I.len]; exact (List.getElem?_eq_some_iff.mp hi).1
 have cne:=I.cne
 have tracked:∀ {a:Addr} {h':Heap},(∃ o,s.heap.get? a = some o ∧ H a = none) → Heap.SameBut a s.heap h' → HOk X.prog X.w H h':=fun {a h'} ha hs b ob e => by
  obtain ⟨_,_,hfree⟩:=ha
  refine (I.hok b ob e).stay (fun c w' hc q => (hs.2 c ?_).trans q) (fun _ q => q) fun _ _ q => q
  rintro rfl
  rcases hc with rfl | hc
  ·rw [hfree] at e; cases e
  ·rw [hfree] at hc; cases hc
 rcases hx with hk | hk
 ·refine wpAny_storeName_local hk hn (fun h' hn' hs => ?_) hcls
  obtain ⟨oL,_,_,hoL,_⟩:=id hn
  refine h _ ⟨I.ok,I.os,I.bare,⟨fun b o e n hb hx => ?_,fun b o e n hb hx => ?_,I.base.free,fun b o e hx => ?_,I.base.tups,I.base.frzs,I.base.tbls⟩,⟨_,hn',fun j y v' e1 e2 e3 => ?_⟩,fun y c e => ?_,I.free,I.freeC,fun p hp => ?_,tracked ⟨oL,hoL,I.free⟩ hs,by simpa using I.len⟩ ⟨_,hs,.inl rfl⟩
  ·exact (hs.2 b (Nat.ne_of_lt (Nat.lt_of_lt_of_le (Heap.lt_size e) I.ok.above))).trans (I.base.keep b o e n hb hx)
  ·obtain ⟨sl,e1⟩:=I.base.slot b o e n hb hx
   exact ⟨sl,(hs.2 b (Nat.ne_of_lt (Nat.lt_of_lt_of_le (Heap.lt_size e) I.ok.above))).trans e1⟩
  ·obtain ⟨o',e1⟩:=I.base.there b o e hx
   exact ⟨o',(hs.2 b (Nat.ne_of_lt (Nat.lt_of_lt_of_le (Heap.lt_size e) I.ok.above))).trans e1⟩
  ·by_cases hj:j = i
   ·subst hj
    rw [hi] at e1; cases e1
    rw [List.getElem?_set_self hiσ] at e2
    cases e2
    exact ⟨u,r,.inl ⟨hk,by simp⟩⟩
   ·rw [List.getElem?_set_ne (Ne.symm hj)] at e2
    obtain ⟨u',r',q⟩:=hl j y v' e1 e2 e3
    refine ⟨u',r',?_⟩
    rcases q with ⟨k,e⟩ | ⟨k,c,e,z⟩
    ·refine .inl ⟨k,?_⟩
     have:y ≠ x:=fun e => hj (nodup_ix hN e1 (e ▸ hi))
     simp [this,e]
    ·exact .inr ⟨k,c,e,z.sameBut hs (cne y c e)⟩
  ·obtain ⟨w',z⟩:=I.cell y c e
   exact ⟨w',z.sameBut hs (cne y c e)⟩
  ·obtain ⟨e,n,ne,nf,d⟩:=I.pin p hp
   exact ⟨(hs.2 p.1 ne).trans e,n,ne,nf,d⟩
 ·have hfn:X.fn x = true:=by
   rcases hf with z | z
   ·exact z
   ·rw [z] at hk; cases hk
  obtain ⟨c,hc⟩:=I.ok.has x (.inl hk)
  obtain ⟨w',z⟩:=I.cell x c hc
  refine wpAny_storeName_cell I.ok.kind hk hc z (fun h' hc' hs => ?_)
  obtain ⟨oc,hoc,hocd⟩:=id z
  refine h { s with heap:=h' } ⟨I.ok,I.os,I.bare,⟨fun b o e n hb hx => ?_,fun b o e n hb hx => ?_,I.base.free,fun b o e hx => ?_,I.base.tups,I.base.frzs,I.base.tbls⟩,⟨m,hn.sameBut hs (Ne.symm (cne x c hc)),fun j y v' e1 e2 e3 => ?_⟩,fun y c' e => ?_,I.free,I.freeC,fun p hp => ?_,tracked ⟨oc,hoc,I.freeC x c hc⟩ hs,by simpa using I.len⟩ ⟨c,hs,.inr hc⟩
  ·exact (hs.2 b (Nat.ne_of_lt (Nat.lt_of_lt_of_le (Heap.lt_size e) (I.ok.cab x c hfn hc)))).trans (I.base.keep b o e n hb hx)
  ·obtain ⟨sl,e1⟩:=I.base.slot b o e n hb hx
   exact ⟨sl,(hs.2 b (Nat.ne_of_lt (Nat.lt_of_lt_of_le (Heap.lt_size e) (I.ok.cab x c hfn hc)))).trans e1⟩
  ·obtain ⟨o',e1⟩:=I.base.there b o e hx
   exact ⟨o',(hs.2 b (Nat.ne_of_lt (Nat.lt_of_lt_of_le (Heap.lt_size e) (I.ok.cab x c hfn hc)))).trans e1⟩
  ·by_cases hj:j = i
   ·subst hj
    rw [hi] at e1; cases e1
    rw [List.getElem?_set_self hiσ] at e2
    cases e2
    exact ⟨u,r,.inr ⟨.inl hk,c,hc,hc'⟩⟩
   ·rw [List.getElem?_set_ne (Ne.symm hj)] at e2
    obtain ⟨u',r',q⟩:=hl j y v' e1 e2 e3
    refine ⟨u',r',?_⟩
    rcases q with q | ⟨k,c',e,z'⟩
    ·exact .inl q
    ·refine .inr ⟨k,c',e,z'.sameBut hs ?_⟩
     rintro rfl
     exact hj (nodup_ix hN e1 (I.ok.inj _ _ _ e hc ▸ hi))
  ·by_cases hcc:c' = c
   ·subst hcc; exact ⟨_,hc'⟩
   ·obtain ⟨w2,z2⟩:=I.cell y c' e
    exact ⟨w2,z2.sameBut hs hcc⟩
  ·obtain ⟨e,n,ne,nf,d⟩:=I.pin p hp
   refine ⟨(hs.2 p.1 ?_).trans e,n,ne,nf,d⟩
   intro q
   rw [q,hoc] at e
   have q':oc = p.2:=Option.some.inj e
   exact d w' (by rw [← q']; exact hocd)
theorem store_ok {M:Model} {A:Around} {E:Value → Shared → Prop} {i:Nat} {x:Str} {v:V} {u:Value} {Q:Unit → Shared → Prop} (I:Inv X pins σ H s) (hN:X.N.Nodup) (hi:X.N[i]? = some x) (hx:Loc X.env.scope x) (r:RelV v u)
  (h:∀ s',Inv X pins (σ.set i (some v)) H s' → Q () s') (hf:X.fn x = true ∨ X.env.scope.names.lookup x = some .local:=by first | exact .inl rfl | exact .inr rfl | assumption):wpAny M A (storeName X.env x u) Q E s :=
 store_ok2 I hN hi hx r (fun s' I' _ => h s' I') hf
theorem Inv.call' {s':Shared} {ch:List Addr} (I:Inv X pins σ H s) (ho:s'.os = s.os) (u:Un (frs X.stack) ch H H' s.heap s'.heap) (hok:HOk X.prog X.w H' s'.heap) (hg:AllBare s'.gens)
  (hch:∀ b ∈ ch,(b ∈ X.ex ∨ X.s₀.heap.objs.size ≤ b) ∧ b ≠ X.env.locals ∧ (∀ x c,X.env.cells.lookup x = some c → c ≠ b) ∧ ∀ p ∈ X.pn ++ pins,p.1 ≠ b):Inv X pins σ H' s':=by
 obtain ⟨h',g',d',t',o'⟩:=s'
 have e:o' = s.os:=ho
 subst e
 exact I.call (g':=g') (t':=t') (d':=d') u hok hg hch
end
noncomputable abbrev XK:=Value → Option Addr → Hp → Prop
noncomputable abbrev St:=List (Option V)
noncomputable abbrev VK:=V → Hp → Prop
noncomputable abbrev TE:=St → Hp → VK → Prop
noncomputable abbrev TT:=St → Hp → (Bool → Hp → Prop) → Prop
noncomputable abbrev TA:=St → Hp → (List V → Hp → Prop) → Prop
structure Ends where
 nx:St → Hp → Prop
 rt:VK
 bk:St → Hp → Prop:=fun _ _ => False
 ct:St → Hp → Prop:=fun _ _ => False
noncomputable abbrev TS:=Ends → St → Hp → Prop
noncomputable def EP (X:Cx) (pins:List (Addr × Obj)) (σ:St) (Q:VK) (u:Value) (s':Shared):Prop:=∃ v H',Inv X pins σ H' s' ∧ RelV v u ∧ Q v H'
noncomputable def TP (X:Cx) (pins:List (Addr × Obj)) (σ:St) (Q:Bool → Hp → Prop) (b:Bool) (s':Shared):Prop:=∃ H',Inv X pins σ H' s' ∧ Q b H'
noncomputable def AP (X:Cx) (pins:List (Addr × Obj)) (σ:St) (Q:List V → Hp → Prop) (us:List Value) (s':Shared):Prop:=∃ vs H',Inv X pins σ H' s' ∧ Vals vs us ∧ Q vs H'
noncomputable def SP (X:Cx) (pins:List (Addr × Obj)) (D:Ends) (f:Flow) (s':Shared):Prop :=
 match f with
 | .next => ∃ σ' H',Inv X pins σ' H' s' ∧ D.nx σ' H'
 | .brk => ∃ σ' H',Inv X pins σ' H' s' ∧ D.bk σ' H'
 | .cont => ∃ σ' H',Inv X pins σ' H' s' ∧ D.ct σ' H'
 | .ret u => ∃ v σ' H',Inv X pins σ' H' s' ∧ RelV v u ∧ D.rt v H'
noncomputable def PE (X:Cx) (e:Expr) (t:TE):Prop :=
 ∀ (pins:List (Addr × Obj)) (s:Shared) (σ:St) (H:Hp) (Q:VK),Inv X pins σ H s → t σ H Q → wpAny (model X.prog X.w) X.A (eval e X.env) (EP X pins σ Q) X.xe s
noncomputable def PT (X:Cx) (e:Expr) (t:TT):Prop :=
 ∀ (pins:List (Addr × Obj)) (s:Shared) (σ:St) (H:Hp) (Q:Bool → Hp → Prop),Inv X pins σ H s → t σ H Q → wpAny (model X.prog X.w) X.A (isTrue e X.env (eval e X.env)) (TP X pins σ Q) X.xe s
noncomputable def PW (X:Cx) (e:Expr) (t:TT):Prop :=
 ∀ (whole:Sem Value) (pins:List (Addr × Obj)) (s:Shared) (σ:St) (H:Hp) (Q:Bool → Hp → Prop),Inv X pins σ H s → t σ H Q → wpAny (model X.prog X.w) X.A (isTrue e X.env whole) (TP X pins σ Q) X.xe s
theorem PW.pt {X:Cx} {e:Expr} {t:TT} (h:PW X e t):PT X e t:=h _
noncomputable def PA (X:Cx) (es:List Expr) (t:TA):Prop :=
 ∀ (pos:Pos) (pins:List (Addr × Obj)) (s:Shared) (σ:St) (H:Hp) (Q:List V → Hp → Prop),Inv X pins σ H s → t σ H Q → wpAny (model X.prog X.w) X.A (spliced (backTo pos (starEach es X.env))) (AP X pins σ Q) X.xe s
noncomputable def PS (X:Cx) (st:Stmt) (t:TS):Prop :=
 ∀ (pins:List (Addr × Obj)) (s:Shared) (σ:St) (H:Hp) (D:Ends),Inv X pins σ H s → t D σ H → wpAny (model X.prog X.w) X.A (exec st X.env) (SP X pins D) X.xe s
noncomputable def PSs (X:Cx) (st:List Stmt) (t:TS):Prop :=
 ∀ (pins:List (Addr × Obj)) (s:Shared) (σ:St) (H:Hp) (D:Ends),Inv X pins σ H s → t D σ H → wpAny (model X.prog X.w) X.A (execs st X.env) (SP X pins D) X.xe s
theorem thn {α:Type} {t:Sem α} {Q Q':α → Shared → Prop} {M:Model} {A:Around} {E:Value → Shared → Prop} {s:Shared} (h:wpAny M A t Q E s) (hQ:∀ a s,Q a s → Q' a s):wpAny M A t Q' E s:=wpAny_mono h hQ fun _ _ x => x
end L2
namespace L2
open PySem PySem.Spec PyProof.Rows
section
variable {X:Cx}
theorem bin {a b:Expr} {ta tb:TE} (ha:PE X a ta) (hb:PE X b tb) {pins:List (Addr × Obj)} {s:Shared} {σ:St} {H:Hp} {R:V → V → Hp → Prop} (I:Inv X pins σ H s) (h:ta σ H fun x H1 => tb σ H1 fun y H2 => R x y H2)
  {α:Type} {Q:α → Shared → Prop} {f:Value → Value → Sem α}
  (hf:∀ v u s2 x y H2,Inv X pins σ H2 s2 → RelV x v → RelV y u → R x y H2 → wpAny (model X.prog X.w) X.A (f v u) Q X.xe s2) :
  wpAny (model X.prog X.w) X.A (eval a X.env) (fun v s₁ => wpAny (model X.prog X.w) X.A (eval b X.env) (fun u s₂ => wpAny (model X.prog X.w) X.A (f v u) Q X.xe s₂) X.xe s₁) X.xe s:=by
 refine thn (ha pins s σ H _ I h) fun v s1 hX11_ => ?_
 obtain ⟨x,H1,I1,r1,q1⟩:=hX11_
 refine thn (hb pins s1 σ H1 _ I1 q1) fun u s2 hX21_ => ?_
 obtain ⟨y,H2,I2,r2,q2⟩:=hX21_
 exact hf v u s2 x y H2 I2 r1 r2 q2
noncomputable def tVar (i:Nat):TE:=fun σ H Q => ∃ v,σ[i]? = some (some v) ∧ Q v H
noncomputable def tC (v:V):TE:=fun _ H Q => Q v H
theorem pe_var {i:Nat} {x:Str} {pos:Pos} (hN:X.N[i]? = some x) (hv:Vis X.env.scope x) (hd:(x == ("__debug__":Str)) = false:=by decide) (hcd:(x == ("__classdict__":Str)) = false:=by decide):PE X (.Name x pos) (tVar i):=by
 intro pins s σ H Q I h
 obtain ⟨v,e,h⟩:=h
 obtain ⟨m,hn,hl⟩:=I.loc
 obtain ⟨u,r,l⟩:=hl i x v hN e hv
 have fin:EP X pins σ Q u s:=⟨v,H,I,r,h⟩
 rcases l with ⟨hk,hm⟩ | ⟨hk,c,hc,hcell⟩
 ·exact wpAny_Name (wpAny_loadName_local I.ok.kind hk hn hm fin) hd
 ·rcases hk with hk | hk
  ·exact wpAny_Name (wpAny_loadName_cell I.ok.kind hk hc hcell fin) hd
  ·exact wpAny_Name (wpAny_loadName_free I.ok.kind hk hc hcell fin hcd) hd
theorem pe_int {i j pos}:PE X (.Constant (.int i) j pos) (tC (.int i)):=fun _ _ _ H _ I h => wpAny_Constant_int ⟨.int i,H,I.tok _,⟨_,rfl⟩,h⟩
theorem pe_bl {b j pos}:PE X (.Constant (.bool b) j pos) (tC (.bl b)):=fun _ _ _ H _ I h => Constant_bool ⟨.bl b,H,I,rfl,h⟩
theorem pe_non {j pos}:PE X (.Constant .none j pos) (tC .non):=fun _ _ _ H _ I h => Constant_none ⟨.non,H,I,rfl,h⟩
theorem pe_str {x j pos}:PE X (.Constant (.str x) j pos) (tC (.str x)):=fun _ _ _ H _ I h => Calls.Constant_str ⟨.str x,H,I.tok _,⟨_,rfl⟩,h⟩
noncomputable def Gl (X:Cx) (x:Str):Prop:=X.env.kindOf x = some .globalImplicit
theorem ld_glob {E:Value → Shared → Prop} {pins:List (Addr × Obj)} {s:Shared} {σ:St} {H:Hp} {x:Str} {u:Value} {pos:Pos} {Q:Value → Shared → Prop} (I:Inv X pins σ H s) (hg:Gl X x) (hm:X.mg x = some u) (h:Q u s)
  (hd:(x == ("__debug__":Str)) = false:=by decide):wpAny (model X.prog X.w) X.A (eval (.Name x pos) X.env) Q E s :=
 Calls.Name_function_global I.ok.kind hg (Calls.loadGlobal_global (by rw [I.ok.glob]; exact I.mod.glob.keeps I.bk) hm h) hd
theorem ld_blt {E:Value → Shared → Prop} {pins:List (Addr × Obj)} {s:Shared} {σ:St} {H:Hp} {x:Str} {u:Value} {pos:Pos} {Q:Value → Shared → Prop} (I:Inv X pins σ H s) (hg:Gl X x) (hm:X.mg x = none) (hv:bootBuiltins x = some u) (h:Q u s)
  (hn:x ≠ "__name__":=by decide) (hd:(x == ("__debug__":Str)) = false:=by decide):wpAny (model X.prog X.w) X.A (eval (.Name x pos) X.env) Q E s:=by
 obtain ⟨mb,h1,h2⟩:=I.mod.blt
 exact Calls.Name_function_global I.ok.kind hg (Calls.loadGlobal_builtin (by rw [I.ok.glob]; exact I.mod.glob.keeps I.bk) hm (by rw [I.ok.blt]; exact h1.keeps I.bk) ((h2 x hn).trans hv) h) hd
theorem pe_glob {x:Str} {v:V} {u:Value} {pos:Pos} (hg:Gl X x) (hm:X.mg x = some u) (r:RelV v u) (hd:(x == ("__debug__":Str)) = false:=by decide):PE X (.Name x pos) (tC v) :=
 fun _ _ _ H _ I h => ld_glob I hg hm ⟨v,H,I,r,h⟩ hd
theorem pe_bltn {x:Str} {v:V} {u:Value} {pos:Pos} (hg:Gl X x) (hm:X.mg x = none) (hv:bootBuiltins x = some u) (r:RelV v u) (hn:x ≠ "__name__":=by decide) (hd:(x == ("__debug__":Str)) = false:=by decide):PE X (.Name x pos) (tC v) :=
 fun _ _ _ H _ I h => ld_blt I hg hm hv ⟨v,H,I,r,h⟩ hn hd
variable {a b:Expr} {ta tb:TE} {pos:Pos}
noncomputable def PC (X:Cx) (op:CmpOp) (a b:Expr) (t:TE):Prop :=
 ∀ (pins:List (Addr × Obj)) (s:Shared) (σ:St) (H:Hp) (Q:VK),Inv X pins σ H s → t σ H Q →
  wpAny (model X.prog X.w) X.A (eval a X.env) (fun v s₁ => wpAny (model X.prog X.w) X.A (eval b X.env) (fun u s₂ => wpAny (model X.prog X.w) X.A (compareOp op v u) (EP X pins σ Q) X.xe s₂) X.xe s₁) X.xe s
theorem nobehind (b:Expr) {op:CmpOp} (h:op ≠ .In) (h2:op ≠ .NotIn):behindInMarks op b = false:=by
 have e1:(op == CmpOp.In) = false:=by cases op <;> first | rfl | exact absurd rfl h
 have e2:(op == CmpOp.NotIn) = false:=by cases op <;> first | rfl | exact absurd rfl h2
 cases b <;> simp [behindInMarks,e1,e2]
noncomputable def tB (t:TE):TT:=fun σ H Q => t σ H fun x H1 => ∃ c,x = .bl c ∧ Q c H1
theorem pt_cmp {op:CmpOp} {t:TE} (h:PC X op a b t) (h1:behindInMarks op b = false:=by first | exact nobehind _ (by decide) (by decide) | rfl):PT X (.Compare a [op] [b] pos) (tB t):=by
 intro pins s σ H Q I hw
 refine wpAny_isTrue_Compare1 (thn (h pins s σ H _ I hw) fun v s1 h1 => thn h1 fun u s2 h2 => thn h2 fun c s3 hX11_ => ?_) h1
 obtain ⟨x,H1,I1,r1,q1⟩:=hX11_
 obtain ⟨d,rfl,q⟩:=q1
 cases r1
 exact wpAny_truthy_bool ⟨H1,I1,q⟩
theorem pt_val {e:Expr} {t:TE} (h:PE X e t) (he:∀ whole,isTrue e X.env whole = (do let v ← whole; standAt e.pos; holding [v] (truthy v)):=by intro _; rfl):PT X e (tB t):=by
 intro pins s σ H Q I hw
 refine isTrue_plain (thn (h pins s σ H _ I hw) fun v s1 hX11_ => ?_) (he _)
 obtain ⟨x,H1,I1,r1,q1⟩:=hX11_
 obtain ⟨d,rfl,q⟩:=q1
 cases r1
 exact wpAny_truthy_bool ⟨H1,I1,q⟩
variable {tA tB':TT} {rest:List Expr}
noncomputable def tAnd (t u:TT):TT:=fun σ H Q => t σ H fun c H1 => if c = true then u σ H1 Q else Q false H1
noncomputable def tOr (t u:TT):TT:=fun σ H Q => t σ H fun c H1 => if c = true then Q true H1 else u σ H1 Q
noncomputable def tNot (t:TT):TT:=fun σ H Q => t σ H fun c H1 => Q (!c) H1
theorem pw_and1 (ha:PT X a tA):PW X (.BoolOp .And [a] pos) tA:=by
 intro wh pins s σ H Q I h
 refine isTrue_and (thn (ha pins s σ H Q I h) fun c s1 e => ?_)
 cases c with
 | true => exact isTrue_and_nil e
 | false => exact e
theorem pw_or1 (ha:PT X a tA):PW X (.BoolOp .Or [a] pos) tA:=by
 intro wh pins s σ H Q I h
 refine isTrue_or (thn (ha pins s σ H Q I h) fun c s1 e => ?_)
 cases c with
 | false => exact isTrue_or_nil e
 | true => exact e
theorem pw_and (ha:PT X a tA) (hb:PW X (.BoolOp .And (b :: rest) pos) tB'):PW X (.BoolOp .And (a :: b :: rest) pos) (tAnd tA tB'):=by
 intro wh pins s σ H Q I h
 refine isTrue_and (thn (ha pins s σ H _ I h) fun c s1 hX11_ => ?_)
 obtain ⟨H1,I1,q1⟩:=hX11_
 cases c with
 | true => exact hb wh pins s1 σ H1 Q I1 q1
 | false => exact ⟨H1,I1,q1⟩
theorem pw_or (ha:PT X a tA) (hb:PW X (.BoolOp .Or (b :: rest) pos) tB'):PW X (.BoolOp .Or (a :: b :: rest) pos) (tOr tA tB'):=by
 intro wh pins s σ H Q I h
 refine isTrue_or (thn (ha pins s σ H _ I h) fun c s1 hX11_ => ?_)
 obtain ⟨H1,I1,q1⟩:=hX11_
 cases c with
 | true => exact ⟨H1,I1,q1⟩
 | false => exact hb wh pins s1 σ H1 Q I1 q1
theorem pt_not (ha:PT X a tA):PT X (.UnaryOp .Not a pos) (tNot tA):=by
 intro pins s σ H Q I h
 exact isTrue_not (ha pins s σ H (fun c H1 => Q (!c) H1) I h)
noncomputable def tAndV (ta tb:TE):TE:=fun σ H Q => ta σ H fun x H1 => ∃ c,x = .bl c ∧ if c = true then tb σ H1 Q else Q (.bl false) H1
noncomputable def tNotV (ta:TE):TE:=fun σ H Q => ta σ H fun x H1 => ∃ c,x = .bl c ∧ Q (.bl (!c)) H1
theorem pe_one {op} {t:TE} (h:PE X a t):PE X (.BoolOp op [a] pos) t:=fun pins s σ H Q I hw => BoolOp_one (h pins s σ H Q I hw)
theorem pe_and (ha:PE X a ta) (hb:PE X (.BoolOp .And (b :: rest) pos) tb):PE X (.BoolOp .And (a :: b :: rest) pos) (tAndV ta tb):=by
 intro pins s σ H Q I h
 refine BoolOp_and (thn (ha pins s σ H _ I h) fun v s1 hX11_ => ?_)
 obtain ⟨x,H1,I1,r1,q1⟩:=hX11_
 obtain ⟨c,rfl,q1⟩:=q1
 cases r1
 refine wpAny_truthy_bool ?_
 cases c with
 | true => exact hb pins s1 σ H1 Q I1 q1
 | false => exact ⟨.bl false,H1,I1,rfl,q1⟩
theorem pe_not (ha:PE X a ta):PE X (.UnaryOp .Not a pos) (tNotV ta):=by
 intro pins s σ H Q I h
 refine UnaryOp_ (thn (ha pins s σ H _ I h) fun v s1 hX11_ => ?_)
 obtain ⟨x,H1,I1,r1,q1⟩:=hX11_
 obtain ⟨c,rfl,q1⟩:=q1
 cases r1
 exact not_of (wpAny_truthy_bool ⟨.bl (!c),H1,I1,rfl,q1⟩)
end
end L2
namespace L2
open PySem PySem.Spec PyProof.Rows
noncomputable def SqL (K:PySem.W.Frag) (H:Hp) (a:Addr) (xs:List V):Prop :=
 Rd H a (.lst xs) ∨
  ∃ (o:Obj) (its:Array Value) (n:Nat),K.lookup a = some o ∧ o.cls = .type "list" ∧ o.dict = none ∧ o.data = .seq its n ∧ its.size ≤ sizeLine ∧ Vals xs its.toList
noncomputable def SqT (K:PySem.W.Frag) (H:Hp) (a:Addr) (xs:List V):Prop :=
 Rd H a (.tup xs) ∨
  ∃ (o:Obj) (its:Array Value) (n:Nat),K.lookup a = some o ∧ o.cls = .type "tuple" ∧ o.data = .seq its n ∧ its.size ≤ sizeLine ∧ Vals xs its.toList
noncomputable def absV:Value → Option V
 | .none => some .non
 | .bool b => some (.bl b)
 | .int i _ => some (.int i)
 | .str x _ => some (.str x)
 | .bytes b _ => some (.byt b)
 | .float b _ => some (.flt b)
 | .ref a => some (.ref a)
 | .type n => some (.ty n)
 | _ => none
theorem RelV.abs {x:V} {u:Value} (r:RelV x u):absV u = some x:=by
 cases x with
 | non => cases r; rfl
 | bl _ => cases r; rfl
 | int _ => obtain ⟨t,rfl⟩:=r; rfl
 | str _ => obtain ⟨t,rfl⟩:=r; rfl
 | byt _ => obtain ⟨t,rfl⟩:=r; rfl
 | flt _ => obtain ⟨t,rfl⟩:=r; rfl
 | ref _ => cases r; rfl
 | ty _ => cases r; rfl
theorem RelV.inj {x y:V} {u:Value} (r:RelV x u) (q:RelV y u):x = y:=Option.some.inj (r.abs.symm.trans q.abs)
theorem Vals.inj:∀ {xs ys:List V} {us:List Value},Vals xs us → Vals ys us → xs = ys
 | _,_,_,.nil,.nil => rfl
 | _,_,_,.cons r t,.cons r' t' => by rw [r.inj r',Vals.inj t t']
section
variable {X:Cx} {pins:List (Addr × Obj)} {σ:St} {H:Hp} {s:Shared} {a:Addr} {xs ys:List V}
theorem SqL.of {K:PySem.W.Frag} (h:H a = some (.lst xs)):SqL K H a xs:=.inl (.inl h)
theorem SqT.of {K:PySem.W.Frag} (h:H a = some (.tup xs)):SqT K H a xs:=.inl (.inl h)
theorem Inv.list (I:Inv X pins σ H s) (h:SqL X.K H a xs):∃ its:List Value,Vals xs its ∧ PlainL s.heap a its.toArray ∧ xs.length ≤ sizeLine:=by
 rcases h with h | ⟨o,its,n,hk,hc,hd,hs,hz,r⟩
 ·obtain ⟨z,its,n,r,e⟩:=h.ok I.hok
  exact ⟨its,r,⟨_,n,e,rfl,rfl,rfl⟩,z⟩
 ·refine ⟨its.toList,r,⟨o,n,I.kIn a o hk,hc,hd,by simpa using hs⟩,?_⟩
  have e:=r.length
  simp only [Array.length_toList] at e
  lia
theorem Inv.tuple (I:Inv X pins σ H s) (h:SqT X.K H a xs):∃ its:List Value,Vals xs its ∧ IsTup s.heap a its.toArray ∧ xs.length ≤ sizeLine:=by
 rcases h with h | ⟨o,its,n,hk,hc,hs,hz,r⟩
 ·obtain ⟨z,its,r,p⟩:=h.ok I.hok
  exact ⟨its,r,p,z⟩
 ·refine ⟨its.toList,r,⟨o,I.kIn a o hk,hc,n,by simpa using hs⟩,?_⟩
  have e:=r.length
  simp only [Array.length_toList] at e
  lia
theorem Inv.list_inj (I:Inv X pins σ H s) (h:SqL X.K H a xs) (h':SqL X.K H a ys):xs = ys:=by
 obtain ⟨its,r,⟨o,n,e,_,_,d⟩,_⟩:=I.list h
 obtain ⟨its',r',⟨o',n',e',_,_,d'⟩,_⟩:=I.list h'
 rw [e] at e'; cases e'
 rw [d] at d'
 injection d' with d1 _
 have:its = its':=by simpa using congrArg Array.toList d1
 subst this
 exact r.inj r'
theorem Inv.tuple_inj (I:Inv X pins σ H s) (h:SqT X.K H a xs) (h':SqT X.K H a ys):xs = ys:=by
 obtain ⟨its,r,⟨o,e,_,n,d⟩,_⟩:=I.tuple h
 obtain ⟨its',r',⟨o',e',_,n',d'⟩,_⟩:=I.tuple h'
 rw [e] at e'; cases e'
 rw [d] at d'
 injection d' with d1 _
 have:its = its':=by simpa using congrArg Array.toList d1
 subst this
 exact r.inj r'
end
noncomputable abbrev Cx.wish (X:Cx) (E:Value → Shared → Prop):Cx:={ X with xe:=E }
noncomputable abbrev Cx.nox (X:Cx):Cx:=X.wish fun _ _ => False
theorem Cx.Ok.wish {X:Cx} (ok:X.Ok) (E:Value → Shared → Prop):(X.wish E).Ok :=
 ⟨ok.mod,ok.kind,ok.glob,ok.blt,ok.above,ok.inj,ok.has,ok.cab,ok.hd,ok.frames,ok.stk,ok.exf,ok.bs,ok.bsz,ok.noex,ok.exfs,ok.funs,ok.frf⟩
theorem Cx.Ok.unwish {X:Cx} {E:Value → Shared → Prop} (ok:(X.wish E).Ok):X.Ok :=
 ⟨ok.mod,ok.kind,ok.glob,ok.blt,ok.above,ok.inj,ok.has,ok.cab,ok.hd,ok.frames,ok.stk,ok.exf,ok.bs,ok.bsz,ok.noex,ok.exfs,ok.funs,ok.frf⟩
section
variable {X:Cx} {pins:List (Addr × Obj)} {σ:St} {H:Hp} {s:Shared} {E:Value → Shared → Prop}
theorem Inv.wish (I:Inv X pins σ H s) (E:Value → Shared → Prop):Inv (X.wish E) pins σ H s:=⟨I.ok.wish E,I.os,I.bare,I.base,I.loc,I.cell,I.free,I.freeC,I.pin,I.hok,I.len⟩
theorem Inv.unwish (I:Inv (X.wish E) pins σ H s):Inv X pins σ H s:=⟨I.ok.unwish,I.os,I.bare,I.base,I.loc,I.cell,I.free,I.freeC,I.pin,I.hok,I.len⟩
theorem SP.unwish {D:Ends} {f:Flow} {s':Shared} (h:SP (X.wish E) pins D f s'):SP X pins D f s':=by
 cases f with
 | next => obtain ⟨σ',H',I,q⟩:=h; exact ⟨σ',H',I.unwish,q⟩
 | brk => obtain ⟨σ',H',I,q⟩:=h; exact ⟨σ',H',I.unwish,q⟩
 | cont => obtain ⟨σ',H',I,q⟩:=h; exact ⟨σ',H',I.unwish,q⟩
 | ret u => obtain ⟨v,σ',H',I,r,q⟩:=h; exact ⟨v,σ',H',I.unwish,r,q⟩
theorem PSs.nox {st:List Stmt} {t:TS} (h:PSs X.nox st t):PSs X st t:=fun pins s σ H D I hw =>
 wpAny_mono (h pins s σ H D (I.wish _) hw) (fun _ _ q => q.unwish) fun _ _ z => False.elim z
end
section
variable {X:Cx} {st:Stmt} {rest:List Stmt} {t u:TS} {e:Expr} {te:TE} {pos:Pos}
noncomputable def tNext:TS:=fun D σ H => D.nx σ H
noncomputable def tSeq (t u:TS):TS:=fun D σ H => t { D with nx:=u D } σ H
theorem pss_nil:PSs X [] tNext:=fun _ _ σ H _ I h => wpAny_execs_nil ⟨σ,H,I,h⟩
theorem pss_cons (h1:PS X st t) (h2:PSs X rest u):PSs X (st :: rest) (tSeq t u):=by
 intro pins s σ H D I h
 refine wpAny_execs_cons (thn (h1 pins s σ H { D with nx:=u D } I h) fun f s1 q => ?_)
 cases f with
 | next =>
  obtain ⟨σ',H',I',q⟩:=q
  exact h2 pins s1 σ' H' D I' q
 | ret v => exact q
 | brk => exact q
 | cont => exact q
theorem pss_one (h1:PS X st t):PSs X [st] t:=by
 intro pins s σ H D I h
 refine wpAny_execs_cons (thn (h1 pins s σ H D I h) fun f s1 q => ?_)
 cases f with
 | next => exact wpAny_execs_nil q
 | ret v => exact q
 | brk => exact q
 | cont => exact q
theorem Inv.quiet {pins:List (Addr × Obj)} {σ:St} {H:Hp} {s:Shared} (I:Inv X pins σ H s):interactive X.env = false:=by simp [interactive,I.ok.kind]
noncomputable def tDrop (te:TE):TS:=fun D σ H => te σ H fun _ H1 => D.nx σ H1
theorem ps_expr (he:PE X e te) (hs:swapsWith e none pos.line X.env = pure false:=by rfl):PS X (.Expr e pos) (tDrop te):=by
 intro pins s σ H D I h
 exact wpAny_Expr_any (thn (he pins s σ H _ I h) fun v s1 ⟨x,H1,I1,r1,q1⟩ => ⟨σ,H1,I1,q1⟩) I.quiet hs
noncomputable def tRet (te:TE):TS:=fun D σ H => te σ H D.rt
theorem ps_ret (he:PE X e te):PS X (.Return (some e) pos) (tRet te):=by
 intro pins s σ H D I h
 exact wpAny_Return_some (thn (he pins s σ H _ I h) fun v s1 ⟨x,H1,I1,r1,q1⟩ => ⟨x,σ,H1,I1,r1,q1⟩)
noncomputable def tIfS (c:TT) (t u:TS):TS:=fun D σ H => c σ H fun b H1 => if b = true then t D σ H1 else u D σ H1
theorem ps_if {c:Expr} {a b:List Stmt} {tc:TT} (hc:PT X c tc) (ha:PSs X a t) (hb:PSs X b u):PS X (.If c a b pos) (tIfS tc t u):=by
 intro pins s σ H D I h
 refine wpAny_If (thn (hc pins s σ H _ I h) fun d s1 hX11_ => ?_)
 obtain ⟨H1,I1,q1⟩:=hX11_
 cases d with
 | true => exact ha pins s1 σ H1 D I1 q1
 | false => exact hb pins s1 σ H1 D I1 q1
noncomputable def tNever:TS:=fun _ _ _ => False
theorem ps_never:PS X st tNever:=fun _ _ _ _ _ _ h => h.elim
end
noncomputable abbrev TG:=V → St → Hp → (St → Hp → Prop) → Prop
noncomputable abbrev TGs:=List V → St → Hp → (St → Hp → Prop) → Prop
noncomputable def PG (X:Cx) (target:Expr) (t:TG):Prop :=
 ∀ (pins:List (Addr × Obj)) (s:Shared) (σ:St) (H:Hp) (v:V) (u:Value) (Q:St → Hp → Prop),Inv X pins σ H s → RelV v u → t v σ H Q →
  wpAny (model X.prog X.w) X.A (assign target X.env u) (fun _ s' => ∃ σ' H',Inv X pins σ' H' s' ∧ Q σ' H') X.xe s
noncomputable def PGs (X:Cx) (ts:List Expr) (t:TGs):Prop :=
 ∀ (pins:List (Addr × Obj)) (s:Shared) (σ:St) (H:Hp) (vs:List V) (us:List Value) (Q:St → Hp → Prop),Inv X pins σ H s → Vals vs us → t vs σ H Q →
  wpAny (model X.prog X.w) X.A (assignInOrder ((assignEach ts X.env).map (·.2)) us) (fun _ s' => ∃ σ' H',Inv X pins σ' H' s' ∧ Q σ' H') X.xe s
noncomputable abbrev TSet:=V → V → V → Hp → (Hp → Prop) → Prop
noncomputable def PSet (X:Cx) (t:TSet):Prop :=
 ∀ (pins:List (Addr × Obj)) (s:Shared) (σ:St) (H:Hp) (o i v:V) (ov iv u:Value) (Q:Hp → Prop),Inv X pins σ H s → RelV o ov → RelV i iv → RelV v u → t o i v H Q →
  wpAny (model X.prog X.w) X.A (setItem ov iv u) (fun _ s' => ∃ H',Inv X pins σ H' s' ∧ Q H') X.xe s
section
variable {X:Cx} {pos:Pos}
noncomputable def gName (i:Nat):TG:=fun v σ H Q => Q (σ.set i (some v)) H
theorem pg_name {i:Nat} {x:Str} (hN:X.N.Nodup) (hi:X.N[i]? = some x) (hx:Loc X.env.scope x) (hf:X.fn x = true ∨ X.env.scope.names.lookup x = some .local:=by first | exact .inl rfl | exact .inr rfl | assumption):PG X (.Name x pos) (gName i):=by
 intro pins s σ H v u Q I r h
 exact wpAny_assign_Name (store_ok I hN hi hx r (fun s' I' => ⟨_,H,I',h⟩) hf)
noncomputable def gNil:TGs:=fun vs σ H Q => vs = [] ∧ Q σ H
noncomputable def gCons (t:TG) (u:TGs):TGs:=fun vs σ H Q => ∃ v r,vs = v :: r ∧ t v σ H fun σ' H' => u r σ' H' Q
theorem pgs_nil:PGs X [] gNil:=by
 intro pins s σ H vs us Q I r h
 obtain ⟨e,h⟩:=h
 subst e
 cases r
 exact assignInOrder_nil ⟨σ,H,I,h⟩
theorem pgs_cons {e:Expr} {es:List Expr} {t:TG} {u:TGs} (h1:PG X e t) (h2:PGs X es u)
  (hs:(assignEach (e :: es) X.env).map (·.2) = assign e X.env :: (assignEach es X.env).map (·.2):=by rfl):PGs X (e :: es) (gCons t u):=by
 intro pins s σ H vs us Q I r h
 obtain ⟨v,vr,e1,h⟩:=h
 subst e1
 cases r with
 | cons r rr =>
  rw [hs]
  refine assignInOrder_cons (thn (h1 pins s σ H _ _ _ I r h) fun _ s1 hX11_ => ?_)
  obtain ⟨σ1,H1,I1,q1⟩:=hX11_
  exact h2 pins s1 σ1 H1 _ _ Q I1 rr q1
noncomputable def gTup (K:PySem.W.Frag) (n:Nat) (t:TGs):TG:=fun v σ H Q => ∃ a xs,v = .ref a ∧ SqT K H a xs ∧ xs.length = n ∧ t xs σ H Q
theorem pg_tup {es:List Expr} {k:Nat} {t:TGs} {n:Nat} (hc:X.calm = true) (h:PGs X es t)
  (hn:(assignEach es X.env).length = n:=by rfl) (hst:(assignEach es X.env).findIdx? (·.1) = none:=by rfl):PG X (.Tuple es k pos) (gTup X.K n t):=by
 intro pins s σ H v u Q I r hw
 obtain ⟨a,xs,e1,hq,hl,hw⟩:=hw
 subst e1
 cases r
 obtain ⟨its,rv,ht,hz⟩:=I.tuple hq
 refine assign_Tuple_tuple (I.ok.hd hc) ht (by simp [hn,← hl,rv.length]) hst fun h' hx => ?_
 have I1:Inv X pins σ H { s with heap:=h' }:=I.kept (t':=s.toks) fun b o e => hx b o (Nat.ne_of_lt (Heap.lt_size e)) e
 exact h pins _ σ H xs _ Q I1 (by simpa using rv) hw
noncomputable def gSub (to ti:TE) (t:TSet):TG:=fun v σ H Q => to σ H fun o H1 => ti σ H1 fun i H2 => t o i v H2 fun H3 => Q σ H3
theorem pg_sub {o i:Expr} {to ti:TE} {t:TSet} (ho:PE X o to) (hi:PE X i ti) (hs:PSet X t)
  (ha:∀ v,assign (.Subscript o i pos) X.env v = (do
   let ov ← holding [v] (eval o X.env)
   let iv ← holding [v,ov] (eval i X.env)
   standAt pos
   holding [v,ov,iv] (setItem ov iv v)
   release [v,ov,iv] []):=by intro _; rfl):PG X (.Subscript o i pos) (gSub to ti t):=by
 intro pins s σ H v u Q I r h
 rw [ha]
 refine wpAny_bind (wpAny_holding (thn (ho pins s σ H _ I h) fun ov s1 hX11_ => ?_))
 obtain ⟨x,H1,I1,r1,q1⟩:=hX11_
 refine wpAny_bind (wpAny_holding (thn (hi pins s1 σ H1 _ I1 q1) fun iv s2 hX21_ => ?_))
 obtain ⟨y,H2,I2,r2,q2⟩:=hX21_
 refine wpAny_bind (wpAny_standAt (wpAny_bind (wpAny_holding (thn (hs pins s2 σ H2 x y v ov iv u _ I2 r1 r2 r q2) fun _ s3 hX31_ => ?_))))
 obtain ⟨H3,I3,q3⟩:=hX31_
 exact wpAny_release ⟨σ,H3,I3,q3⟩
noncomputable def tAsg (te:TE) (g:TG):TS:=fun D σ H => te σ H fun x H1 => g x σ H1 D.nx
theorem ps_asg {tg e:Expr} {te:TE} {g:TG} (he:PE X e te) (hg:PG X tg g) (hs:swapsWithSole [tg] e pos.line X.env = pure false:=by rfl) (hw:swappedStores [tg] e X.env = pure none:=by rfl)
  (h1:(assignEach [tg] X.env).map (·.2) = [assign tg X.env]:=by rfl):PS X (.Assign [tg] e pos) (tAsg te g):=by
 intro pins s σ H D I h
 refine wpAny_Assign_stores (thn (he pins s σ H _ I h) fun v s1 hX11_ => ?_) hs hw
 obtain ⟨x,H1,I1,r1,q1⟩:=hX11_
 rw [h1]
 exact thn (hg pins s1 σ H1 x v _ I1 r1 q1) fun _ s2 q => q
theorem ps_set {i:Nat} {x:Str} {e:Expr} {te:TE} {pos':Pos} (hN:X.N.Nodup) (hi:X.N[i]? = some x) (hx:Loc X.env.scope x) (he:PE X e te) (hs:swapsWith e (some (.Name x pos')) pos.line X.env = pure false:=by rfl) (hf:X.fn x = true ∨ X.env.scope.names.lookup x = some .local:=by first | exact .inl rfl | exact .inr rfl | assumption) :
  PS X (.Assign [.Name x pos'] e pos) (tAsg te (gName i)):=by
 intro pins s σ H D I h
 refine wpAny_Assign_Name (thn (he pins s σ H _ I h) fun v s1 hX11_ => ?_) hs
 obtain ⟨y,H1,I1,r1,q1⟩:=hX11_
 exact store_ok I1 hN hi hx r1 (fun s2 I2 => ⟨_,H1,I2,q1⟩) hf
end
section
variable {X:Cx} {pos:Pos}
noncomputable def tWhile (c:TT) (tb:TS):TS:=fun D σ H => ∃ W:Nat → St → Hp → Prop,(∃ m,W m σ H) ∧ ∀ m σ H,W m σ H →
 c σ H fun b H1 => if b = true then ∃ N:St → Hp → Prop,(∀ σ' H',N σ' H' → ∃ m',m' < m ∧ W m' σ' H') ∧ tb { D with nx:=N,ct:=N,bk:=D.nx } σ H1 else D.nx σ H1
theorem ps_while {c:Expr} {body:List Stmt} {tc:TT} {tb:TS} (hp:PassesOwn (model X.prog X.w) X.A X.env X.xe) (hc:PT X c tc) (hb:PSs X body tb):PS X (.While c body [] pos) (tWhile tc tb):=by
 intro pins s σ H D I h
 obtain ⟨W,⟨m0,w0⟩,turn⟩:=h
 refine wpAny_While (codeAny_whileLoop (fun n s' => ∃ σ' H',Inv X pins σ' H' s' ∧ W n σ' H') ?_ m0 ⟨σ,H,I,w0⟩)
 rintro n s1 ⟨σ1,H1,I1,w1⟩
 refine wpAny_passesOwn hp (thn (hc pins s1 σ1 H1 _ I1 (turn n σ1 H1 w1)) fun b s2 hX11_ => ?_)
 obtain ⟨H2,I2,q2⟩:=hX11_
 cases b with
 | true =>
  obtain ⟨N,hN,q2⟩:=q2
  rw [if_pos rfl]
  refine wpAny_passesOwn hp (thn (hb pins s2 σ1 H2 _ I2 q2) fun f s3 q3 => ?_)
  cases f with
  | next =>
   obtain ⟨σ3,H3,I3,n3⟩:=q3
   obtain ⟨m',hm,w3⟩:=hN σ3 H3 n3
   exact ⟨m',hm,σ3,H3,I3,w3⟩
  | cont =>
   obtain ⟨σ3,H3,I3,n3⟩:=q3
   obtain ⟨m',hm,w3⟩:=hN σ3 H3 n3
   exact ⟨m',hm,σ3,H3,I3,w3⟩
  | brk => exact q3
  | ret v => exact q3
 | false =>
  rw [if_neg Bool.false_ne_true]
  exact wpAny_execs_nil ⟨σ1,H2,I2,q2⟩
end
structure It where
 go:Nat → Hp → Prop
 yld:Nat → Hp → V → Hp → Prop
 stop:Nat → Hp → Prop
noncomputable def FpOk (X:Cx) (pins:List (Addr × Obj)) (H:Hp) (b:Addr):Prop :=
 H b = none ∧ b ≠ X.env.locals ∧ b ∉ X.fs ∧ (b ∈ X.ex ∨ X.s₀.heap.objs.size ≤ b) ∧ (∀ x c,X.env.cells.lookup x = some c → c ≠ b) ∧ ∀ p ∈ X.pn ++ pins,p.1 ≠ b
theorem Inv.fpOk {X:Cx} {pins:List (Addr × Obj)} {σ:St} {H H':Hp} {s:Shared} {b:Addr} (I:Inv X pins σ H s) (hb:s.heap.objs.size ≤ b) (hn:H' b = none):FpOk X pins H' b:=by
 refine ⟨hn,Nat.ne_of_gt (Nat.lt_of_lt_of_le I.lt hb),I.nofs hb,.inr (Nat.le_trans I.sz hb),fun x c e z => ?_,fun p hp z => ?_⟩
 ·obtain ⟨v,q⟩:=I.cell x c e
  exact absurd (Nat.lt_of_lt_of_le q.lt (by rw [z]; exact hb)) (Nat.lt_irrefl _)
 ·exact absurd (Nat.lt_of_lt_of_le (Heap.lt_size (I.pin p hp).1) (by rw [z]; exact hb)) (Nat.lt_irrefl _)
structure Turn (P:Program) (w:World) (K:PySem.W.Frag) (tg:Expr) (J:It) (fp:List Addr) (it:Addr) (tn:Nat → Heap → Prop):Prop where
 mem:it ∈ fp
 obj:∀ i h,tn i h → ∀ b ∈ fp,∃ o,h.get? b = some o ∧ ∀ v,o.data ≠ .cell v
 keep:∀ i h h',tn i h → (∀ b ∈ fp,∀ o,h.get? b = some o → h'.get? b = some o) → tn i h'
 item:∀ (X:Cx),X.prog = P → X.w = w → X.K = K → X.calm = true → ∀ (i:Nat) (pins:List (Addr × Obj)) (s:Shared) (σ:St) (H:Hp) (E:Value → Shared → Prop),Inv X pins σ H s → (∀ b ∈ fp,FpOk X pins H b) → tn i s.heap → J.go i H →
  wpAny (model P w) X.A (pyNext (.ref it)) (fun r s1 => ∃ u,r = some u ∧
   wpAny (model P w) X.A (letOwnedTupleGo tg (.ref it) u) (fun _ s2 => ∃ x H',Inv X pins σ H' s2 ∧ RelV x u ∧ J.yld i H x H' ∧ tn (i + 1) s2.heap ∧ ∀ b ∈ fp,H' b = none) E s1) E s
 done:∀ (X:Cx),X.prog = P → X.w = w → X.K = K → X.calm = true → ∀ (i:Nat) (pins:List (Addr × Obj)) (s:Shared) (σ:St) (H:Hp) (E:Value → Shared → Prop),Inv X pins σ H s → (∀ b ∈ fp,FpOk X pins H b) → tn i s.heap → J.stop i H →
  wpAny (model P w) X.A (pyNext (.ref it)) (fun r s1 => r = none ∧ Inv X pins σ H s1) E s
 self:∀ (A:Around) (i:Nat) (s:Shared) (Q:Value → Shared → Prop) (E:Value → Shared → Prop),tn i s.heap → Q (.ref it) s → wpAny (model P w) A (pyIter (.ref it)) Q E s
noncomputable abbrev TI:=St → Hp → (It → Hp → Prop) → Prop
noncomputable def PIE (X:Cx) (pins:List (Addr × Obj)) (σ:St) (tg:Expr) (R:It → Hp → Prop) (itv:Value) (s2:Shared):Prop :=
 ∃ (it:Addr) (fp:List Addr) (tn:Nat → Heap → Prop) (J:It) (H':Hp),itv = .ref it ∧ Inv X pins σ H' s2 ∧ Turn X.prog X.w X.K tg J fp it tn ∧ tn 0 s2.heap ∧ (∀ b ∈ fp,FpOk X pins H' b) ∧ R J H'
noncomputable def PI (X:Cx) (tg iter:Expr) (wi:TI):Prop :=
 ∀ (pins:List (Addr × Obj)) (s:Shared) (σ:St) (H:Hp) (R:It → Hp → Prop),Inv X pins σ H s → wi σ H R →
  wpAny (model X.prog X.w) X.A (eval iter X.env) (fun v s1 => wpAny (model X.prog X.w) X.A (pyIter v) (PIE X pins σ tg R) X.xe s1) X.xe s
theorem go_of {M : Model} {A : Around} {E : Value → Shared → Prop} {s : Shared} {tg : Expr} {it : Addr} {u : Value} {o : Obj} {n : String} {vs : Array Value} {Q : Unit → Shared → Prop} (ho : s.heap.get? it = some o) (hc : o.cls = .type n) (hd : o.data = .fields vs)
    (hn : ["enumerate", "zip", "dict_itemiterator", "dict_reverseitemiterator", "odict_iterator", "itertools.zip_longest", "itertools.pairwise"].contains n = false) (hQ : Q () s) : wpAny M A (letOwnedTupleGo tg (.ref it) u) Q E s := by
  unfold letOwnedTupleGo
  cases tg <;> first
    | exact wpAny_pure hQ
    | (cases u <;> first
        | exact wpAny_pure hQ
        | (refine wpAny_bind (wpAny_load ho ?_)
           rw [hc, hd]
           show wpAny M A (if (["enumerate", "zip", "dict_itemiterator", "dict_reverseitemiterator", "odict_iterator", "itertools.zip_longest", "itertools.pairwise"].contains n && vs[0]? == some (rawInt _)) = true then _ else _) Q E s
           rw [if_neg (by intro h; rw [hn, Bool.false_and] at h; cases h)]
           exact wpAny_pure hQ))
noncomputable def Itl (K:PySem.W.Frag) (a:Addr):It :=
 ⟨fun i H => ∃ xs x,SqL K H a xs ∧ xs[i]? = some x,fun i H x H' => H' = H ∧ ∀ xs,SqL K H a xs → xs[i]? = some x,fun i H => ∃ xs,SqL K H a xs ∧ xs.length ≤ i⟩
noncomputable def Itt (K:PySem.W.Frag) (a:Addr):It :=
 ⟨fun i H => ∃ xs x,SqT K H a xs ∧ xs[i]? = some x,fun i H x H' => H' = H ∧ ∀ xs,SqT K H a xs → xs[i]? = some x,fun i H => ∃ xs,SqT K H a xs ∧ xs.length ≤ i⟩
noncomputable def Itr (lo:Int) (n:Nat):It:=⟨fun i _ => i < n,fun i H x H' => H' = H ∧ x = .int (lo + i),fun i _ => n ≤ i⟩
theorem turn_list {P:Program} {w:World} {K:PySem.W.Frag} {tg:Expr} (a it:Addr):Turn P w K tg (Itl K a) [it] it (fun i h => h.IsListIter it a i) where
 mem:=by simp
 obj:=fun i h st b hb => by
  have e:b = it:=by simpa using hb
  subst e
  obtain ⟨o,e,c,d⟩:=st
  exact ⟨o,e,fun v z => by rw [d] at z; cases z⟩
 keep:=fun i h h' st k => st.at fun o e => k it (by simp) o e
 item:=by
  intro X hP hw hK hc i pins s σ H E I hf st hg
  subst hP hw hK
  obtain ⟨xs,x,hq,hx⟩:=hg
  obtain ⟨its,rv,p,hz⟩:=I.list hq
  obtain ⟨u,hu,ru⟩:=rv.get hx
  obtain ⟨f0,f1,f2,f3,f4,f5⟩:=hf it (by simp)
  refine wpAny_pyNext_list_item st p.isList (x:=u) (by simpa using hu) fun h' st' sb => ?_
  have I1:Inv X pins σ H { s with heap:=h' }:=I.turned (t':=s.toks) (fun b o hb e => (sb.2 b hb).trans e) f0 f1 f3 f4 f5
  obtain ⟨o,e,c,d⟩:=id st'
  exact ⟨u,rfl,go_of (s:={ s with heap:=h' }) e c d (by decide) ⟨x,H,I1,ru,⟨rfl,fun ys hy => by rw [I.list_inj hy hq]; exact hx⟩,st',fun b hb => (hf b hb).1⟩⟩
 done:=by
  intro X hP hw hK hc i pins s σ H E I hf st hg
  subst hP hw hK
  obtain ⟨xs,hq,hx⟩:=hg
  obtain ⟨its,rv,p,hz⟩:=I.list hq
  obtain ⟨f0,f1,f2,f3,f4,f5⟩:=hf it (by simp)
  have hl:=rv.length
  exact wpAny_pyNext_list_end (I.ok.hd hc) st p.isList (by simp; lia) fun h' eb => ⟨rfl,I.turned (t':=s.toks) (fun b o hb e => eb b o hb e) f0 f1 f3 f4 f5⟩
 self:=fun _ _ _ _ _ st h => wpAny_pyIter_listiter st h
theorem turn_tuple {P:Program} {w:World} {K:PySem.W.Frag} {tg:Expr} (a it:Addr):Turn P w K tg (Itt K a) [it] it (fun i h => h.IsTupleIter it a i) where
 mem:=by simp
 obj:=fun i h st b hb => by
  have e:b = it:=by simpa using hb
  subst e
  obtain ⟨o,e,c,d⟩:=st
  exact ⟨o,e,fun v z => by rw [d] at z; cases z⟩
 keep:=fun i h h' st k => st.at fun o e => k it (by simp) o e
 item:=by
  intro X hP hw hK hc i pins s σ H E I hf st hg
  subst hP hw hK
  obtain ⟨xs,x,hq,hx⟩:=hg
  obtain ⟨its,rv,p,hz⟩:=I.tuple hq
  obtain ⟨u,hu,ru⟩:=rv.get hx
  obtain ⟨f0,f1,f2,f3,f4,f5⟩:=hf it (by simp)
  refine wpAny_pyNext_tuple_item st (show s.heap.IsTuple a its.toArray from p) (x:=u) (by simpa using hu) fun h' st' sb => ?_
  have I1:Inv X pins σ H { s with heap:=h' }:=I.turned (t':=s.toks) (fun b o hb e => (sb.2 b hb).trans e) f0 f1 f3 f4 f5
  obtain ⟨o,e,c,d⟩:=id st'
  exact ⟨u,rfl,go_of (s:={ s with heap:=h' }) e c d (by decide) ⟨x,H,I1,ru,⟨rfl,fun ys hy => by rw [I.tuple_inj hy hq]; exact hx⟩,st',fun b hb => (hf b hb).1⟩⟩
 done:=by
  intro X hP hw hK hc i pins s σ H E I hf st hg
  subst hP hw hK
  obtain ⟨xs,hq,hx⟩:=hg
  obtain ⟨its,rv,p,hz⟩:=I.tuple hq
  obtain ⟨f0,f1,f2,f3,f4,f5⟩:=hf it (by simp)
  have hl:=rv.length
  exact wpAny_pyNext_tuple_end (I.ok.hd hc) st (show s.heap.IsTuple a its.toArray from p) (by simp; lia) fun h' eb => ⟨rfl,I.turned (t':=s.toks) (fun b o hb e => eb b o hb e) f0 f1 f3 f4 f5⟩
 self:=fun _ _ _ _ _ st h => wpAny_pyIter_tupleiter st h
theorem turn_range {P:Program} {w:World} {K:PySem.W.Frag} {tg:Expr} (it:Addr) (lo:Int) (n:Nat):Turn P w K tg (Itr lo n) [it] it (fun i h => IsRangeIter h it (lo + (i:Nat) * 1) ((n:Int) - (i:Nat)) 1) where
 mem:=by simp
 obj:=fun i h st b hb => by
  have e:b = it:=by simpa using hb
  subst e
  exact ⟨_,st,fun v z => by
   have z':Data.fields _ = Data.cell v:=z
   cases z'⟩
 keep:=fun i h h' st k => k it (by simp) _ st
 item:=by
  intro X hP hw hK hc i pins s σ H E I hf st hg
  subst hP hw hK
  obtain ⟨f0,f1,f2,f3,f4,f5⟩:=hf it (by simp)
  have W:=Walks.range (prog:=X.prog) (w:=X.w) (I.ok.hd hc) it lo 1 n
  refine W.item i s _ _ hg st fun v h' tk hv st' kk => ?_
  obtain ⟨t,rfl⟩:=hv
  have I1:Inv X pins σ H { s with heap:=h',toks:=tk }:=I.turned (fun b o hb e => kk b o (by simpa using hb) e) f0 f1 f3 f4 f5
  refine ⟨_,rfl,go_of (s:={ s with heap:=h',toks:=tk }) (n:="range_iterator") st' rfl rfl (by decide) ⟨.int (lo + i),H,I1,⟨t,?_⟩,⟨rfl,rfl⟩,st',fun b hb => (hf b hb).1⟩⟩
  rw [Int.mul_one]
 done:=by
  intro X hP hw hK hc i pins s σ H E I hf st hg
  subst hP hw hK
  obtain ⟨f0,f1,f2,f3,f4,f5⟩:=hf it (by simp)
  exact wpAny_pyNext_range_end (I.ok.hd hc) st (by have:n ≤ i:=hg; lia) fun h' eb => ⟨rfl,I.turned (t':=s.toks) (fun b o hb e => eb b o hb e) f0 f1 f3 f4 f5⟩
 self:=fun _ _ _ _ _ st h => wpAny_pyIter_rangeiter st h
end L2
namespace L2
open PySem PySem.Spec PyProof.Rows
section
variable {X:Cx} {tg:Expr}
theorem range_it {pins:List (Addr × Obj)} {σ:St} {H:Hp} {s:Shared} {R:It → Hp → Prop} {E:Value → Shared → Prop} {lo hi:Int} {t u v:Tok} {tk:Nat} (I:Inv X pins σ H s) (h1:-(2 ^ 62) ≤ lo) (h2:lo < 2 ^ 62) (h3:-(2 ^ 62) ≤ hi) (h4:hi < 2 ^ 62)
  (q:R (Itr lo (hi - lo).toNat) H):wpAny (model X.prog X.w) X.A (pyIter (.ref s.heap.objs.size)) (PIE X pins σ tg R) E { s with heap:=s.heap.push { cls:=.type "range",data:=.fields #[.int lo t,.int hi u,.int 1 v] },toks:=tk }:=by
 refine wpAny_pyIter_range (IsRange.new ..) (small_one h1 h2 h3 h4) ?_
 have I1:Inv X pins σ H { s with heap:=s.heap.push { cls:=.type "range",data:=.fields #[.int lo t,.int hi u,.int 1 v] },toks:=tk }:=I.kept fun b o e => Heap.get?_push_of_some _ e
 refine ⟨(s.heap.push { cls:=.type "range",data:=.fields #[.int lo t,.int hi u,.int 1 v] }).objs.size,[(s.heap.push { cls:=.type "range",data:=.fields #[.int lo t,.int hi u,.int 1 v] }).objs.size],_,_,H,rfl,
  I1.kept (t':=tk) fun b o e => Heap.get?_push_of_some _ e,turn_range _ lo (hi - lo).toNat,?_,fun b hb => ?_,q⟩
 ·have e1:lo + ((0:Nat):Int) * 1 = lo:=by simp
  have e2:(((hi - lo).toNat:Nat):Int) - ((0:Nat):Int) = Builtin.Range.rangeSize lo hi 1:=by rw [rangeSize_one]; split <;> lia
  show IsRangeIter _ _ (lo + ((0:Nat):Int) * 1) ((((hi - lo).toNat:Nat):Int) - ((0:Nat):Int)) 1
  rw [e1,e2]
  exact Heap.get?_push_size _ rfl
 ·have e:b = (s.heap.push { cls:=.type "range",data:=.fields #[.int lo t,.int hi u,.int 1 v] }).objs.size:=by simpa using hb
  subst e
  exact I1.fpOk (Nat.le_refl _) (I1.hok.fresh (Nat.le_refl _))
noncomputable def iRng1 (ta:TA):TI:=fun σ H R => ta σ H fun vs H1 => ∃ j:Int,vs = [.int j] ∧ -(2 ^ 62) ≤ j ∧ j < 2 ^ 62 ∧ R (Itr 0 j.toNat) H1
noncomputable def iRng2 (ta:TA):TI:=fun σ H R => ta σ H fun vs H1 => ∃ i j:Int,vs = [.int i,.int j] ∧ (-(2 ^ 62) ≤ i ∧ i < 2 ^ 62 ∧ -(2 ^ 62) ≤ j ∧ j < 2 ^ 62) ∧ R (Itr i (j - i).toNat) H1
theorem pi_range1 {a:Expr} {ta:TA} {p pos:Pos} (hg:Gl X "range") (hm:X.mg "range" = none) (ha:PA X [a] ta) (hs:starEach [a] X.env = [(false,eval a X.env)]:=by rfl):PI X tg (.Call (.Name "range" p) [a] [] pos) (iRng1 ta):=by
 intro pins s σ H R I h
 refine Call_ (ld_blt I hg hm boot_range (PyProof.Rows.callWith_type1 (thn (ha pos pins s σ H _ I h) fun us s1 hX11_ => ?_) hs rfl))
 obtain ⟨vs,H1,I1,r1,q1⟩:=hX11_
 obtain ⟨j,e,q1,q2,q⟩:=q1
 subst e
 cases r1 with
 | cons r rr =>
  cases rr
  obtain ⟨t,rfl⟩:=r
  exact call_range_1 (range_it I1 (by lia) (by lia) q1 q2 (by simpa using q))
theorem pi_range2 {a b:Expr} {ta:TA} {p pos:Pos} (hg:Gl X "range") (hm:X.mg "range" = none) (ha:PA X [a,b] ta) (hs:starEach [a,b] X.env = [(false,eval a X.env),(false,eval b X.env)]:=by rfl) (hs2:starEach [b] X.env = [(false,eval b X.env)]:=by rfl) :
  PI X tg (.Call (.Name "range" p) [a,b] [] pos) (iRng2 ta):=by
 intro pins s σ H R I h
 refine Call_ (ld_blt I hg hm boot_range (PyProof.Rows.callWith_type1 (thn (ha pos pins s σ H _ I h) fun us s1 hX11_ => ?_) (by rw [hs,hs2]) (by rw [hs2]; rfl)))
 obtain ⟨vs,H1,I1,r1,q1⟩:=hX11_
 obtain ⟨i,j,e,⟨q1,q2,q3,q4⟩,q⟩:=q1
 subst e
 cases r1 with
 | cons r rr =>
  cases rr with
  | cons r' rr =>
   cases rr
   obtain ⟨t,rfl⟩:=r
   obtain ⟨t',rfl⟩:=r'
   exact call_range_2 (range_it I1 q1 q2 q3 q4 q)
noncomputable def tFor (wi:TI) (g:TG) (tb:TS):TS:=fun D σ H => wi σ H fun J H1 => ∃ W:Nat → Nat → St → Hp → Prop,(∃ m,W 0 m σ H1) ∧ ∀ i m σ H,W i m σ H →
 (J.stop i H ∧ D.nx σ H) ∨ (J.go i H ∧ ∃ N:St → Hp → Prop,(∀ σ' H',N σ' H' → ∃ m',m' < m ∧ W (i + 1) m' σ' H') ∧ ∀ x H',J.yld i H x H' → g x σ H' fun σ2 H2 => tb { D with nx:=N,ct:=N,bk:=D.nx } σ2 H2)
noncomputable def pinsAt (fp:List Addr) (h:Heap):List (Addr × Obj):=fp.filterMap fun b => (h.get? b).map fun o => (b,o)
theorem mem_pinsAt {fp:List Addr} {h:Heap} {b:Addr} {o:Obj} (hb:b ∈ fp) (e:h.get? b = some o):(b,o) ∈ pinsAt fp h:=List.mem_filterMap.mpr ⟨b,hb,by rw [e]; rfl⟩
theorem of_pinsAt {fp:List Addr} {h:Heap} {p:Addr × Obj} (hp:p ∈ pinsAt fp h):p.1 ∈ fp ∧ h.get? p.1 = some p.2:=by
 obtain ⟨b,hb,e⟩:=List.mem_filterMap.mp hp
 cases q:h.get? b with
 | none => rw [q] at e; cases e
 | some o =>
  rw [q] at e
  have e':(b,o) = p:=Option.some.inj e
  subst e'
  exact ⟨hb,q⟩
theorem Inv.pinned {pins:List (Addr × Obj)} {σ:St} {H:Hp} {s:Shared} {fp:List Addr} (I:Inv X pins σ H s) (hf:∀ b ∈ fp,FpOk X pins H b) (ho:∀ b ∈ fp,∃ o,s.heap.get? b = some o ∧ ∀ v,o.data ≠ .cell v):Inv X (pins ++ pinsAt fp s.heap) σ H s :=
 I.pins_of fun p hp => (List.mem_append.mp hp).elim (fun z => I.pin p (List.mem_append_right _ z)) fun z => by
  obtain ⟨hb,e⟩:=of_pinsAt z
  obtain ⟨f0,f1,f2,_⟩:=hf p.1 hb
  obtain ⟨o,e',d⟩:=ho p.1 hb
  rw [e] at e'; cases e'
  exact ⟨e,f0,f1,f2,d⟩
theorem Inv.unpinned {pins pl:List (Addr × Obj)} {σ:St} {H:Hp} {s:Shared} (I:Inv X (pins ++ pl) σ H s):Inv X pins σ H s:=I.pins_of fun p hp => I.pin p (List.mem_append_right _ (List.mem_append_left _ hp))
theorem ps_for {iter:Expr} {body:List Stmt} {wi:TI} {g:TG} {tb:TS} {pos:Pos} (hp:PassesOwn (model X.prog X.w) X.A X.env X.xe) (hc:X.calm = true) (hi:PI X tg iter wi) (hg:PG X tg g) (hb:PSs X body tb)
  (hs:∀ x,foldedSetIterable iter X.env x = pure x:=by intro _; rfl):PS X (.For tg iter body [] pos) (tFor wi g tb):=by
 intro pins s σ H D I h
 refine wpAny_For (thn (hi pins s σ H _ I h) fun v s1 h1 => thn h1 fun itv s2 h2 => ?_) hs
 obtain ⟨it,fp,tn,J,H2,e,I2,T,st2,f2,W,⟨m0,w0⟩,turn⟩:=h2
 subst e
 have stat:∀ {H':Hp},(∀ b ∈ fp,H' b = none) → ∀ b ∈ fp,FpOk X pins H' b:=fun hn b hb => ⟨hn b hb,(f2 b hb).2⟩
 refine codeAny_forLoop_any (fun n s' => ∃ i σ' H',Inv X pins σ' H' s' ∧ tn i s'.heap ∧ (∀ b ∈ fp,H' b = none) ∧ W i n σ' H') ?_ m0 ⟨0,σ,H2,I2,st2,fun b hb => (f2 b hb).1,w0⟩
 rintro n s3 ⟨i,σ3,H3,I3,st3,fr3,w3⟩
 rcases turn i n σ3 H3 w3 with ⟨stop,qn⟩ | ⟨go,N,hN,step⟩
 ·refine wpAny_passesOwn hp (thn (T.done X rfl rfl rfl hc i pins s3 σ3 H3 X.xe I3 (stat fr3) st3 stop) fun r s4 ⟨hr,I4⟩ => ?_)
  subst hr
  exact wpAny_execs_nil ⟨σ3,H3,I4,qn⟩
 ·refine wpAny_passesOwn hp (thn (T.item X rfl rfl rfl hc i pins s3 σ3 H3 X.xe I3 (stat fr3) st3 go) fun r s4 ⟨u,hr,h4⟩ => ?_)
  subst hr
  refine wpAny_passesOwn hp (thn h4 fun _ s5 hX11_ => ?_)
  obtain ⟨x,H5,I5,r5,y5,st5,fr5⟩:=hX11_
  have I5':=I5.pinned (stat fr5) (T.obj _ _ st5)
  refine wpAny_passesOwn hp (thn (hg _ s5 σ3 H5 x u _ I5' r5 (step x H5 y5)) fun _ s6 hX21_ => ?_)
  obtain ⟨σ6,H6,I6,q6⟩:=hX21_
  refine wpAny_passesOwn hp (thn (hb _ s6 σ6 H6 _ I6 q6) fun f s7 q7 => ?_)
  have again:∀ {σ7:St} {H7:Hp},Inv X (pins ++ pinsAt fp s5.heap) σ7 H7 s7 → N σ7 H7 → ∃ m,m < n ∧ ∃ i σ' H',Inv X pins σ' H' s7 ∧ tn i s7.heap ∧ (∀ b ∈ fp,H' b = none) ∧ W i m σ' H':=fun {σ7 H7} I7 n7 => by
   obtain ⟨m',hm,w7⟩:=hN σ7 H7 n7
   refine ⟨m',hm,i + 1,σ7,H7,I7.unpinned,T.keep _ _ _ st5 fun b hb o e => (I7.pin (b,o) (List.mem_append_right _ (List.mem_append_right _ (mem_pinsAt hb e)))).1,fun b hb => ?_,w7⟩
   obtain ⟨o,e,d⟩:=T.obj _ _ st5 b hb
   exact (I7.pin (b,o) (List.mem_append_right _ (List.mem_append_right _ (mem_pinsAt hb e)))).2.1
  cases f with
  | next => obtain ⟨σ7,H7,I7,n7⟩:=q7; exact again I7 n7
  | cont => obtain ⟨σ7,H7,I7,n7⟩:=q7; exact again I7 n7
  | brk => obtain ⟨σ7,H7,I7,q7⟩:=q7; exact ⟨σ7,H7,I7.unpinned,q7⟩
  | ret v => obtain ⟨x7,σ7,H7,I7,r7,q7⟩:=q7; exact ⟨x7,σ7,H7,I7.unpinned,r7,q7⟩
end
end L2
namespace L2
open PySem PySem.Spec PyProof.Rows
noncomputable abbrev R2:=V → V → Hp → VK → Prop
noncomputable def OpR (X:Cx) (f:Value → Value → Sem Value) (r:R2):Prop :=
 ∀ (pins:List (Addr × Obj)) (s:Shared) (σ:St) (H:Hp) (x y:V) (v u:Value) (Q:VK),Inv X pins σ H s → RelV x v → RelV y u → r x y H Q →
  wpAny (model X.prog X.w) X.A (f v u) (EP X pins σ Q) X.xe s
noncomputable def UnR (X:Cx) (f:Value → Sem Value) (r:V → Hp → VK → Prop):Prop :=
 ∀ (pins:List (Addr × Obj)) (s:Shared) (σ:St) (H:Hp) (x:V) (v:Value) (Q:VK),Inv X pins σ H s → RelV x v → r x H Q →
  wpAny (model X.prog X.w) X.A (f v) (EP X pins σ Q) X.xe s
noncomputable def CallR (X:Cx) (f:Value) (r:List V → Hp → VK → Prop):Prop :=
 ∀ (pins:List (Addr × Obj)) (s:Shared) (σ:St) (H:Hp) (xs:List V) (us:List Value) (Q:VK),Inv X pins σ H s → Vals xs us → r xs H Q →
  wpAny (model X.prog X.w) X.A (call f us) (EP X pins σ Q) X.xe s
noncomputable def tOp (r:R2) (ta tb:TE):TE:=fun σ H Q => ta σ H fun x H1 => tb σ H1 fun y H2 => r x y H2 Q
noncomputable def tUn (r:V → Hp → VK → Prop) (ta:TE):TE:=fun σ H Q => ta σ H fun x H1 => r x H1 Q
noncomputable def rI (C:Int → Int → Prop) (g:Int → Int → V):R2:=fun x y H Q => ∃ i j,x = .int i ∧ y = .int j ∧ C i j ∧ Q (g i j) H
noncomputable def rI0 (g:Int → Int → V):R2:=fun x y H Q => ∃ i j,x = .int i ∧ y = .int j ∧ Q (g i j) H
noncomputable def rU (g:Int → V):V → Hp → VK → Prop:=fun x H Q => ∃ i,x = .int i ∧ Q (g i) H
section
variable {X:Cx} {a b c:Expr} {ta tb tc:TE} {pos:Pos}
theorem binT (ha:PE X a ta) (hb:PE X b tb) {pins:List (Addr × Obj)} {s:Shared} {σ:St} {H:Hp} {R:V → V → Hp → Prop} (I:Inv X pins σ H s)
  (h:ta σ H fun x H1 => tb σ H1 fun y H2 => R x y H2) {Q:Value → Shared → Prop} {f:Value → Value → Sem Value}
  (hf:∀ v u s2 x y H2,Inv X pins σ H2 s2 → RelV x v → RelV y u → R x y H2 → wpAny (model X.prog X.w) X.A (f v u) Q X.xe s2) :
  wpAny (model X.prog X.w) X.A (eval a X.env) (fun v s₁ => wpAny (model X.prog X.w) X.A (eval b X.env) (fun u s₂ => wpAny (model X.prog X.w) X.A (f v u) Q X.xe s₂) X.xe s₁) X.xe s:=by
 refine thn (ha pins s σ H _ I h) fun v s1 hX11_ => ?_
 obtain ⟨x,H1,I1,r1,q1⟩:=hX11_
 refine thn (hb pins s1 σ H1 _ I1 q1) fun u s2 hX21_ => ?_
 obtain ⟨y,H2,I2,r2,q2⟩:=hX21_
 exact hf v u s2 x y H2 I2 r1 r2 q2
theorem pe_op {op:Operator} {r:R2} (ho:OpR X (binaryOp op) r) (ha:PE X a ta) (hb:PE X b tb):PE X (.BinOp a op b pos) (tOp r ta tb):=by
 intro pins s σ H Q I h
 exact wpAny_BinOp (binT ha hb I h fun v u s2 x y H2 I2 rx ry q => ho pins s2 σ H2 x y v u Q I2 rx ry q)
theorem pe_un {op:UnaryOp} {r:V → Hp → VK → Prop} (ho:UnR X (unaryOp op) r) (ha:PE X a ta):PE X (.UnaryOp op a pos) (tUn r ta):=by
 intro pins s σ H Q I h
 exact UnaryOp_ (thn (ha pins s σ H _ I h) fun v s1 ⟨x,H1,I1,r1,q1⟩ => ho pins s1 σ H1 x v Q I1 r1 q1)
theorem opI {f:Value → Value → Sem Value} {C:Int → Int → Prop} {g:Int → Int → Int}
  (rule:∀ (i j:Int) (t u:Tok) (s:Shared) (Q:Value → Shared → Prop) (E:Value → Shared → Prop),C i j → Q (.int (g i j) s.toks) { s with toks:=s.toks + 1 } → wpAny (model X.prog X.w) X.A (f (.int i t) (.int j u)) Q E s) :
  OpR X f (rI C fun i j => .int (g i j)):=by
 intro pins s σ H x y v u Q I rx ry h
 obtain ⟨i,j,rfl,rfl,hc,q⟩:=h
 obtain ⟨t,rfl⟩:=rx
 obtain ⟨t',rfl⟩:=ry
 exact rule i j t t' s _ _ hc ⟨.int (g i j),H,I.tok _,⟨_,rfl⟩,q⟩
theorem opI0 {f:Value → Value → Sem Value} {g:Int → Int → Int}
  (rule:∀ (i j:Int) (t u:Tok) (s:Shared) (Q:Value → Shared → Prop) (E:Value → Shared → Prop),Q (.int (g i j) s.toks) { s with toks:=s.toks + 1 } → wpAny (model X.prog X.w) X.A (f (.int i t) (.int j u)) Q E s) :
  OpR X f (rI0 fun i j => .int (g i j)):=by
 intro pins s σ H x y v u Q I rx ry h
 obtain ⟨i,j,rfl,rfl,q⟩:=h
 obtain ⟨t,rfl⟩:=rx
 obtain ⟨t',rfl⟩:=ry
 exact rule i j t t' s _ _ ⟨.int (g i j),H,I.tok _,⟨_,rfl⟩,q⟩
theorem opB0 {f:Value → Value → Sem Value} {g:Int → Int → Bool}
  (rule:∀ (i j:Int) (t u:Tok) (s:Shared) (Q:Value → Shared → Prop) (E:Value → Shared → Prop),Q (.bool (g i j)) s → wpAny (model X.prog X.w) X.A (f (.int i t) (.int j u)) Q E s) :
  OpR X f (rI0 fun i j => .bl (g i j)):=by
 intro pins s σ H x y v u Q I rx ry h
 obtain ⟨i,j,rfl,rfl,q⟩:=h
 obtain ⟨t,rfl⟩:=rx
 obtain ⟨t',rfl⟩:=ry
 exact rule i j t t' s _ _ ⟨.bl (g i j),H,I,rfl,q⟩
noncomputable def CDiv (i j:Int):Prop:=0 < j ∧ j < 1073741824
noncomputable def CPow (i j:Int):Prop:=0 ≤ j ∧ j ≤ 1000000 ∧ i.natAbs < 2 ^ 64
noncomputable def CMul (i j:Int):Prop:=(-(2 ^ 64) < i ∧ i < 2 ^ 64) ∨ (-(2 ^ 64) < j ∧ j < 2 ^ 64)
theorem CMul.ok {i j:Int} (h:CMul i j):IntMulOk i j:=by
 rcases h with ⟨h1,h2⟩ | ⟨h1,h2⟩
 ·exact .of_left (intBits_le_64 h1 h2)
 ·exact .of_right (intBits_le_64 h1 h2)
theorem op_add:OpR X (binaryOp .Add) (rI0 fun i j => .int (i + j)):=opI0 fun _ _ _ _ _ _ _ q => add_int q
theorem op_sub:OpR X (binaryOp .Sub) (rI0 fun i j => .int (i - j)):=opI0 fun _ _ _ _ _ _ _ q => sub_int q
theorem op_mul:OpR X (binaryOp .Mult) (rI CMul fun i j => .int (i * j)):=opI fun _ _ _ _ _ _ _ hc q => mul_int q hc.ok
theorem op_fdiv:OpR X (binaryOp .FloorDiv) (rI CDiv fun i j => .int (i / j)):=opI fun i j _ _ _ _ _ hc q => by
 have h1:(0:Int) < j:=hc.1
 have h2:j < 1073741824:=hc.2
 exact floordiv_int (by lia) (by rw [Int.fdiv_eq_ediv_of_nonneg i (by lia)]; exact q) (.inl (PyProof.noPylong_small (by lia)))
theorem op_mod:OpR X (binaryOp .Mod) (rI (fun _ j => 0 < j) fun i j => .int (i % j)):=opI fun i j _ _ _ _ _ hc q => by
 have h1:(0:Int) < j:=hc
 exact mod_int' (by lia) (by rw [Int.fmod_eq_emod_of_nonneg i (by lia)]; exact q)
theorem op_pow:OpR X (binaryOp .Pow) (rI CPow fun i j => .int (i ^ j.toNat)):=opI fun _ _ _ _ _ _ _ hc q => pow_int_small hc.1 hc.2.1 hc.2.2 q
theorem unI {f:Value → Sem Value} {g:Int → Int}
  (rule:∀ (i:Int) (t:Tok) (s:Shared) (Q:Value → Shared → Prop) (E:Value → Shared → Prop),Q (.int (g i) s.toks) { s with toks:=s.toks + 1 } → wpAny (model X.prog X.w) X.A (f (.int i t)) Q E s) :
  UnR X f (rU fun i => .int (g i)):=by
 intro pins s σ H x v Q I rx h
 obtain ⟨i,rfl,q⟩:=h
 obtain ⟨t,rfl⟩:=rx
 exact rule i t s _ _ ⟨.int (g i),H,I.tok _,⟨_,rfl⟩,q⟩
theorem un_neg:UnR X (unaryOp .USub) (rU fun i => .int (-i)):=unI fun _ _ _ _ _ q => neg_int q
end
noncomputable def scal:V → V → Bool
 | .non,.non => true | .non,.int _ => true | .int _,.non => true | .non,.bl _ => true | .bl _,.non => true | .non,.str _ => true | .str _,.non => true
 | .int _,.int _ => true | .bl _,.bl _ => true | .str _,.str _ => true | .byt _,.byt _ => true
 | .int _,.str _ => true | .str _,.int _ => true | .bl _,.str _ => true | .str _,.bl _ => true
 | _,_ => false
noncomputable def rEq:R2:=fun x y H Q => scal x y = true ∧ Q (.bl (decide (x = y))) H
noncomputable def rNe:R2:=fun x y H Q => scal x y = true ∧ Q (.bl (!decide (x = y))) H
theorem dec_int {i j:Int}:decide (V.int i = V.int j) = (i == j):=by
 rw [Bool.eq_iff_iff]
 simp
theorem dec_bl {i j:Bool}:decide (V.bl i = V.bl j) = (i == j):=by
 rw [Bool.eq_iff_iff]
 simp
theorem dec_str {i j:Str}:decide (V.str i = V.str j) = (i == j):=by
 rw [Bool.eq_iff_iff]
 simp
theorem dec_byt {i j:Array UInt8}:decide (V.byt i = V.byt j) = (i.toList == j.toList):=by
 rw [Bool.eq_iff_iff]
 cases i
 cases j
 simp
section
variable {X:Cx} {a b c:Expr} {ta tb tc:TE} {pos:Pos}
theorem fin_bl {pins:List (Addr × Obj)} {σ:St} {H:Hp} {s:Shared} {Q:VK} {k k':Bool} (I:Inv X pins σ H s) (q:Q (.bl k) H) (e:k = k'):EP X pins σ Q (.bool k') s:=by
 subst e
 exact ⟨.bl k,H,I,rfl,q⟩
theorem op_eq:OpR X (compareOp .Eq) rEq:=by
 intro pins s σ H x y v u Q I rx ry h
 obtain ⟨hs,q⟩:=h
 cases x with
 | non =>
  cases rx
  cases y with
  | non => cases ry; exact PySem.EqNone.eq_none_none (fin_bl I q (by simp))
  | bl j => cases ry; exact PySem.EqNone.eq_none_bool (fin_bl I q (by simp))
  | int j => obtain ⟨t',rfl⟩:=ry; exact PySem.EqNone.eq_none_int (fin_bl I q (by simp))
  | str j => obtain ⟨t',rfl⟩:=ry; exact PySem.EqNone.eq_none_str (fin_bl I q (by simp))
  | _ => exact absurd (show false = true from hs) Bool.false_ne_true
 | bl i =>
  cases rx
  cases y with
  | non => cases ry; exact PySem.EqNone.eq_bool_none (fin_bl I q (by simp))
  | bl j => cases ry; exact eq_bool (fin_bl I q dec_bl)
  | str j => obtain ⟨t',rfl⟩:=ry; exact PySem.EqMixed.eq_bool_str (fin_bl I q (by simp))
  | _ => exact absurd (show false = true from hs) Bool.false_ne_true
 | int i =>
  obtain ⟨t,rfl⟩:=rx
  cases y with
  | non => cases ry; exact PySem.EqNone.eq_int_none (fin_bl I q (by simp))
  | int j => obtain ⟨t',rfl⟩:=ry; exact eq_int (fin_bl I q dec_int)
  | str j => obtain ⟨t',rfl⟩:=ry; exact PySem.EqMixed.eq_int_str (fin_bl I q (by simp))
  | _ => exact absurd (show false = true from hs) Bool.false_ne_true
 | str i =>
  obtain ⟨t,rfl⟩:=rx
  cases y with
  | non => cases ry; exact PySem.EqNone.eq_str_none (fin_bl I q (by simp))
  | bl j => cases ry; exact PySem.EqMixed.eq_str_bool (fin_bl I q (by simp))
  | int j => obtain ⟨t',rfl⟩:=ry; exact PySem.EqMixed.eq_str_int (fin_bl I q (by simp))
  | str j => obtain ⟨t',rfl⟩:=ry; exact eq_str (fin_bl I q dec_str)
  | _ => exact absurd (show false = true from hs) Bool.false_ne_true
 | byt i =>
  obtain ⟨t,rfl⟩:=rx
  cases y with
  | byt j => obtain ⟨t',rfl⟩:=ry; exact PySem.W.eq_bytes (fin_bl I q dec_byt)
  | _ => exact absurd (show false = true from hs) Bool.false_ne_true
 | _ => cases y <;> exact absurd (show false = true from hs) Bool.false_ne_true
theorem op_ne:OpR X (compareOp .NotEq) rNe:=by
 intro pins s σ H x y v u Q I rx ry h
 obtain ⟨hs,q⟩:=h
 cases x with
 | non =>
  cases rx
  cases y with
  | non => cases ry; exact PySem.EqNone.ne_none_none (fin_bl I q (by simp))
  | bl j => cases ry; exact PySem.EqNone.ne_none_bool (fin_bl I q (by simp))
  | int j => obtain ⟨t',rfl⟩:=ry; exact PySem.EqNone.ne_none_int (fin_bl I q (by simp))
  | str j => obtain ⟨t',rfl⟩:=ry; exact PySem.EqNone.ne_none_str (fin_bl I q (by simp))
  | _ => exact absurd (show false = true from hs) Bool.false_ne_true
 | bl i =>
  cases rx
  cases y with
  | non => cases ry; exact PySem.EqNone.ne_bool_none (fin_bl I q (by simp))
  | bl j => cases ry; exact ne_bool (fin_bl I q (congrArg not dec_bl))
  | str j => obtain ⟨t',rfl⟩:=ry; exact PySem.EqMixed.ne_bool_str (fin_bl I q (by simp))
  | _ => exact absurd (show false = true from hs) Bool.false_ne_true
 | int i =>
  obtain ⟨t,rfl⟩:=rx
  cases y with
  | non => cases ry; exact PySem.EqNone.ne_int_none (fin_bl I q (by simp))
  | int j => obtain ⟨t',rfl⟩:=ry; exact ne_int (fin_bl I q (congrArg not dec_int))
  | str j => obtain ⟨t',rfl⟩:=ry; exact PySem.EqMixed.ne_int_str (fin_bl I q (by simp))
  | _ => exact absurd (show false = true from hs) Bool.false_ne_true
 | str i =>
  obtain ⟨t,rfl⟩:=rx
  cases y with
  | non => cases ry; exact PySem.EqNone.ne_str_none (fin_bl I q (by simp))
  | bl j => cases ry; exact PySem.EqMixed.ne_str_bool (fin_bl I q (by simp))
  | int j => obtain ⟨t',rfl⟩:=ry; exact PySem.EqMixed.ne_str_int (fin_bl I q (by simp))
  | str j => obtain ⟨t',rfl⟩:=ry; exact ne_str (fin_bl I q (congrArg not dec_str))
  | _ => exact absurd (show false = true from hs) Bool.false_ne_true
 | byt i =>
  obtain ⟨t,rfl⟩:=rx
  cases y with
  | byt j => obtain ⟨t',rfl⟩:=ry; exact PySem.W.ne_bytes (fin_bl I q (congrArg not dec_byt))
  | _ => exact absurd (show false = true from hs) Bool.false_ne_true
 | _ => cases y <;> exact absurd (show false = true from hs) Bool.false_ne_true
theorem op_lt:OpR X (compareOp .Lt) (rI0 fun i j => .bl (decide (i < j))):=opB0 fun _ _ _ _ _ _ _ q => lt_int q
theorem op_le:OpR X (compareOp .LtE) (rI0 fun i j => .bl (decide (i ≤ j))):=opB0 fun _ _ _ _ _ _ _ q => le_int q
theorem op_gt:OpR X (compareOp .Gt) (rI0 fun i j => .bl (decide (j < i))):=opB0 fun _ _ _ _ _ _ _ q => gt_int q
theorem op_in_str:OpR X (compareOp .In) (fun x y H Q => ∃ i j,x = .str i ∧ y = .str j ∧ Q (.bl (!(Builtin.Str.occurrences j i 0 j.length 1).isEmpty)) H):=by
 intro pins s σ H x y v u Q I rx ry h
 obtain ⟨i,j,rfl,rfl,q⟩:=h
 obtain ⟨t,rfl⟩:=rx
 obtain ⟨t',rfl⟩:=ry
 exact in_str (fin_bl I q rfl)
theorem op_isN:OpR X (compareOp .Is) (fun x y H Q => y = .non ∧ Q (.bl (decide (x = .non))) H):=by
 intro pins s σ H x y v u Q I rx ry h
 obtain ⟨rfl,q⟩:=h
 cases ry
 refine is_none_gen (fin_bl I q ?_)
 cases x <;> first
  | (cases rx; rfl)
  | (obtain ⟨t,rfl⟩:=rx; rfl)
theorem op_notN:OpR X (compareOp .IsNot) (fun x y H Q => y = .non ∧ Q (.bl (!decide (x = .non))) H):=by
 intro pins s σ H x y v u Q I rx ry h
 obtain ⟨rfl,q⟩:=h
 cases ry
 refine isnot_none_gen (fin_bl I q ?_)
 cases x <;> first
  | (cases rx; rfl)
  | (obtain ⟨t,rfl⟩:=rx; rfl)
theorem op_notin_str:OpR X (compareOp .NotIn) (fun x y H Q => ∃ i j,x = .str i ∧ y = .str j ∧ Q (.bl (!(!(Builtin.Str.occurrences j i 0 j.length 1).isEmpty))) H):=by
 intro pins s σ H x y v u Q I rx ry h
 obtain ⟨i,j,rfl,rfl,q⟩:=h
 obtain ⟨t,rfl⟩:=rx
 obtain ⟨t',rfl⟩:=ry
 exact notIn_str (fin_bl I q rfl)
theorem OpR.or {f:Value → Value → Sem Value} {r r':R2} (h:OpR X f r) (h':OpR X f r'):OpR X f (fun x y H Q => r x y H Q ∨ r' x y H Q):=by
 intro pins s σ H x y v u Q I rx ry q
 rcases q with q | q
 ·exact h pins s σ H x y v u Q I rx ry q
 ·exact h' pins s σ H x y v u Q I rx ry q
theorem nomark (b:Expr) {op:CmpOp} (h:op ≠ .In:=by decide) (h2:op ≠ .NotIn:=by decide):behindInMarks op b = false:=by
 have e1:(op == CmpOp.In) = false:=by cases op <;> first | rfl | exact absurd rfl h
 have e2:(op == CmpOp.NotIn) = false:=by cases op <;> first | rfl | exact absurd rfl h2
 cases b <;> simp [behindInMarks,e1,e2]
theorem pe_cmpR {op:CmpOp} {r:R2} (ho:OpR X (compareOp op) r) (ha:PE X a ta) (hb:PE X b tb) (hm:behindInMarks op b = false):PE X (.Compare a [op] [b] pos) (tOp r ta tb):=by
 intro pins s σ H Q I h
 exact wpAny_Compare1 (binT ha hb I h fun v u s2 x y H2 I2 rx ry q => ho pins s2 σ H2 x y v u Q I2 rx ry q) hm
noncomputable def tTest (t:TE):TT:=fun σ H Q => t σ H fun x H' => ∃ k,x = .bl k ∧ Q k H'
theorem pt_cmpR {op:CmpOp} {r:R2} (ho:OpR X (compareOp op) r) (ha:PE X a ta) (hb:PE X b tb) (hm:behindInMarks op b = false):PT X (.Compare a [op] [b] pos) (tTest (tOp r ta tb)):=by
 intro pins s σ H Q I h
 refine wpAny_isTrue_Compare1 (thn (ha pins s σ H _ I h) fun v s1 ⟨x,H1,I1,r1,q1⟩ => thn (hb pins s1 σ H1 _ I1 q1) fun u s2 ⟨y,H2,I2,r2,q2⟩ =>
  thn (ho pins s2 σ H2 x y v u _ I2 r1 r2 q2) fun c s3 ⟨z,H3,I3,r3,k,e,q3⟩ => ?_) hm
 subst e
 cases r3
 exact wpAny_truthy_bool ⟨H3,I3,q3⟩
noncomputable def tChain (r r':R2) (ta tb tc:TE):TE:=fun σ H Q => ta σ H fun x H1 => tb σ H1 fun y H2 => r x y H2 fun z H3 => ∃ k,z = .bl k ∧
 (if k = true then tc σ H3 fun w' H4 => r' y w' H4 Q else Q (.bl false) H3)
theorem pe_chain {op op':CmpOp} {r r':R2} (ho:OpR X (compareOp op) r) (ho':OpR X (compareOp op') r') (ha:PE X a ta) (hb:PE X b tb) (hc:PE X c tc)
  (hm:lastMarks [op,op'] [b,c] = false:=by with_unfolding_all rfl):PE X (.Compare a [op,op'] [b,c] pos) (tChain r r' ta tb tc):=by
 intro pins s σ H Q I h
 refine Compare_chain (thn (ha pins s σ H _ I h) fun v s1 ⟨x,H1,I1,r1,q1⟩ => chain_link (thn (hb pins s1 σ H1 _ I1 q1) fun u s2 ⟨y,H2,I2,r2,q2⟩ =>
  thn (ho pins s2 σ H2 x y v u _ I2 r1 r2 q2) fun d s3 ⟨z,H3,I3,r3,k,e,q3⟩ => ?_)) hm
 subst e
 cases r3
 refine wpAny_truthy_bool ?_
 cases k with
 | false => exact ite_ff ⟨.bl false,H3,I3,rfl,q3⟩
 | true => exact ite_tt (chain_last (thn (hc pins s3 σ H3 _ I3 q3) fun w' s4 ⟨z',H4,I4,r4,q4⟩ => ho' pins s4 σ H4 y z' u w' Q I4 r2 r4 q4))
theorem pt_chain {op op':CmpOp} {r r':R2} (ho:OpR X (compareOp op) r) (ho':OpR X (compareOp op') r') (ha:PE X a ta) (hb:PE X b tb) (hc:PE X c tc)
  (hm:lastMarks [op,op'] [b,c] = false:=by with_unfolding_all rfl):PT X (.Compare a [op,op'] [b,c] pos) (tTest (tChain r r' ta tb tc)):=by
 intro pins s σ H Q I h
 refine isTrue_chain (thn (ha pins s σ H _ I h) fun v s1 ⟨x,H1,I1,r1,q1⟩ => test_link (thn (hb pins s1 σ H1 _ I1 q1) fun u s2 ⟨y,H2,I2,r2,q2⟩ =>
  thn (ho pins s2 σ H2 x y v u _ I2 r1 r2 q2) fun d s3 ⟨z,H3,I3,r3,k,e,q3⟩ => ?_)) hm
 subst e
 cases r3
 refine wpAny_truthy_bool ?_
 cases k with
 | false =>
  obtain ⟨k',e',q'⟩:=q3
  cases e'
  exact ite_ff ⟨H3,I3,q'⟩
 | true =>
  refine ite_tt (test_last (thn (hc pins s3 σ H3 _ I3 q3) fun w' s4 ⟨z',H4,I4,r4,q4⟩ => thn (ho' pins s4 σ H4 y z' u w' _ I4 r2 r4 q4) fun d' s5 hX11_ => ?_))
  obtain ⟨z2,H5,I5,r5,k2,e2,q5⟩:=hX11_
  subst e2
  cases r5
  exact wpAny_truthy_bool ⟨H5,I5,q5⟩
theorem line63:(sizeLine:Nat) < 2 ^ 63:=by rw [sizeLine_eq]; decide
theorem op_add_str:OpR X (binaryOp .Add) (fun x y H Q => ∃ i j,x = .str i ∧ y = .str j ∧ i.length + j.length ≤ sizeLine ∧ Q (.str (i ++ j)) H):=by
 intro pins s σ H x y v u Q I rx ry h
 obtain ⟨i,j,rfl,rfl,hz,q⟩:=h
 obtain ⟨t,rfl⟩:=rx
 obtain ⟨t',rfl⟩:=ry
 exact add_str (fun t' tk => ⟨.str (i ++ j),H,I.tok _,⟨_,rfl⟩,q⟩) hz
theorem vals1 {x:V} {us:List Value} (r:Vals [x] us):∃ u,us = [u] ∧ RelV x u:=by
 cases r with
 | cons r1 r2 => cases r2; exact ⟨_,rfl,r1⟩
theorem vals2 {x y:V} {us:List Value} (r:Vals [x,y] us):∃ u w',us = [u,w'] ∧ RelV x u ∧ RelV y w':=by
 cases r with
 | cons r1 r2 =>
  cases r2 with
  | cons r3 r4 => cases r4; exact ⟨_,_,rfl,r1,r3⟩
theorem call_int1:CallR X (.type "int") (fun xs H Q => (∃ i,xs = [.int i] ∧ Q (.int i) H) ∨ ∃ k,xs = [.bl k] ∧ Q (.int (if k then 1 else 0)) H):=by
 intro pins s σ H xs us Q I r h
 rcases h with ⟨i,rfl,q⟩ | ⟨k,rfl,q⟩
 ·obtain ⟨u,rfl,t,rfl⟩:=vals1 r
  exact call_int_int ⟨.int i,H,I,⟨_,rfl⟩,q⟩
 ·obtain ⟨u,rfl,r1⟩:=vals1 r
  cases r1
  exact call_int_bool ⟨.int (if k then 1 else 0),H,I.tok _,⟨_,rfl⟩,q⟩
theorem call_str_int:CallR X (.type "str") (fun xs H Q => ∃ i,xs = [.int i] ∧ i.natAbs.log2 < 1920 ∧ Q (.str (toString i)) H):=by
 intro pins s σ H xs us Q I r h
 obtain ⟨i,rfl,hz,q⟩:=h
 obtain ⟨u,rfl,t,rfl⟩:=vals1 r
 exact PySem.P.str_of_int hz ⟨.str _,H,I.tok _,⟨_,rfl⟩,q⟩
end
end L2
namespace L2
open PySem PySem.Spec PyProof.Rows
end L2
namespace L2
open PySem PySem.Spec PyProof.Rows
structure Room (k:Nat) (A:Around):Prop where
 hd:A.handled = none
 dp:A.depth + 3 * k + 5 < recursionLimit
 un:A.units + 16 * k + 200 < cLine
theorem Room.mono {j k:Nat} {A:Around} (r:Room k A) (h:j ≤ k):Room j A:=⟨r.hd,by have:=r.dp; lia,by have:=r.un; lia⟩
theorem Room.deeper {k:Nat} {A:Around} (r:Room (k + 1) A) (env:Env):Room k (A.deeper env) :=
 ⟨r.hd,by have:=r.dp; show A.depth + 1 + 3 * k + 5 < _; lia,by have:=r.un; show A.units + 3 + 16 * k + 200 < _; lia⟩
theorem Room.in1 {k:Nat} {A:Around} (r:Room (k + 1) A):Room k A.in1 :=
 ⟨r.hd,by have:=r.dp; show A.depth + 3 * k + 5 < _; lia,by have:=r.un; show A.units + 1 + 16 * k + 200 < _; lia⟩
theorem Room.depth {k:Nat} {A:Around} (r:Room k A):A.depth < recursionLimit:=by have:=r.dp; lia
theorem Room.units {k:Nat} {A:Around} (r:Room k A):A.units + 64 < cLine:=by have:=r.un; lia
noncomputable def tNil:TA:=fun _ H Q => Q [] H
noncomputable def tCons (ta:TE) (tr:TA):TA:=fun σ H Q => ta σ H fun x H1 => tr σ H1 fun xs H2 => Q (x :: xs) H2
section
variable {X:Cx} {e:Expr} {es:List Expr} {te:TE} {t:TA} {pos:Pos}
theorem pa_nil:PA X [] tNil:=fun _ _ _ _ H Q I h => Calls.spliced_nil ⟨[],H,I,.nil,h⟩
theorem pa_cons (ha:PE X e te) (hr:PA X es t) (hs:starEach (e :: es) X.env = (false,eval e X.env) :: starEach es X.env:=by rfl):PA X (e :: es) (tCons te t):=by
 intro pos pins s σ H Q I h
 rw [hs]
 show wpAny _ _ (spliced ((false,eval e X.env) :: backTo pos (starEach es X.env))) _ _ s
 refine Calls.spliced_cons (thn (ha pins s σ H _ I h) fun u s1 hX11_ => ?_)
 obtain ⟨x,H1,I1,r1,q1⟩:=hX11_
 exact thn (hr pos pins s1 σ H1 _ I1 q1) fun us s2 ⟨xs,H2,I2,r2,q2⟩ => ⟨x :: xs,H2,I2,.cons r1 r2,q2⟩
noncomputable def tTup (t:TA):TE:=fun σ H Q => t σ H fun xs H1 => xs.length ≤ sizeLine ∧ ∀ p,H1 p = none → Q (.ref p) (upd H1 p (.tup xs))
noncomputable def tLst (t:TA):TE:=fun σ H Q => t σ H fun xs H1 => xs.length ≤ sizeLine ∧ ∀ p,H1 p = none → Q (.ref p) (upd H1 p (.lst xs))
theorem pe_tup {x1} (h:PA X es t):PE X (.Tuple es x1 pos) (tTup t):=by
 intro pins s σ H Q I hq
 refine wpAny_Tuple_spliced (thn (h pos pins s σ H _ I hq) fun us s1 ⟨xs,H1,I1,r,z,q⟩ => ⟨by rw [← r.length]; exact z,?_⟩)
 have hf:H1 s1.heap.objs.size = none:=I1.hok.fresh (Nat.le_refl _)
 refine ⟨.ref s1.heap.objs.size,upd H1 s1.heap.objs.size (.tup xs),I1.laid (t':=s1.toks) (fun b u e => Heap.get?_push_of_some _ e) (Nat.le_refl _) ?_,rfl,q _ hf⟩
 exact ⟨z,us,r,⟨_,Heap.get?_push_size _ rfl,rfl,_,rfl⟩⟩
theorem pe_lst (h:PA X es t):PE X (.List es pos) (tLst t):=by
 intro pins s σ H Q I hq
 refine wpAny_List_spliced (thn (h pos pins s σ H _ I hq) fun us s1 ⟨xs,H1,I1,r,z,q⟩ => ⟨by rw [← r.length]; exact z,?_⟩)
 have hf:H1 s1.heap.objs.size = none:=I1.hok.fresh (Nat.le_refl _)
 refine ⟨.ref s1.heap.objs.size,upd H1 s1.heap.objs.size (.lst xs),I1.laid (t':=s1.toks) (fun b u e => Heap.get?_push_of_some _ e) (Nat.le_refl _) ?_,rfl,q _ hf⟩
 exact ⟨z,us,0,r,Heap.get?_push_size _ rfl⟩
end
noncomputable abbrev Sp:=List V → Hp → VK → XK → Prop
noncomputable abbrev CXT:=List Env → Hp → Shared → XK → Value → Shared → Prop
structure Env0 (P:Program) (w:World) (K:PySem.W.Frag) (mg:Str → Option Value) (base:Heap) (A:Around) (outer:List Env) (s:Shared) (H:Hp):Prop where
 frames:A.frames = some outer
 mod:Mod K mg base
 bs:∀ b o,base.get? b = some o → s.heap.get? b = some o ∧ H b = none
 bsz:base.objs.size ≤ s.heap.objs.size
 funs:s.heap.FunFrames base outer
 frf:∀ b ∈ frs outer,H b = none
 hok:HOk P w H s.heap
 bare:AllBare s.gens
noncomputable def CE (outer:List Env) (P:Program) (w:World) (H:Hp) (s:Shared) (Q:VK) (u:Value) (s':Shared):Prop :=
 ∃ v H',s'.os = s.os ∧ AllBare s'.gens ∧ Un (frs outer) [] H H' s.heap s'.heap ∧ HOk P w H' s'.heap ∧ RelV v u ∧ Q v H'
noncomputable def CR (CX:CXT) (outer:List Env) (P:Program) (w:World) (H:Hp) (s:Shared) (Q:VK) (E:XK) (r:Result) (s':Shared):Prop :=
 match r with
 | .ok (.ret u) => CE outer P w H s Q u s'
 | .ok _ => False
 | .error e => CX outer H s E e s'
structure FnOk (P:Program) (w:World) (K:PySem.W.Frag) (mg:Str → Option Value) (base:Heap) (CX:CXT) (k:Nat) (f:Addr) (fd:FuncData) (ps:List Str) (sp:Sp):Prop where
 len:∀ vs H Q E,sp vs H Q E → vs.length = ps.length
 run:∀ (A:Around) (outer:List Env) (s:Shared) (H:Hp) (args:Args) (us:List Value) (vs:List V) (Q:VK) (E:XK),Room k A → Env0 P w K mg base A outer s H → BindsTo s fd args (ps.zip us) → Vals vs us → sp vs H Q E →
  codeAny (model P w) A (.call (.ref f) args) (CR CX outer P w H s Q E) s
theorem Env0.in1 {P:Program} {w:World} {K:PySem.W.Frag} {mg:Str → Option Value} {base:Heap} {A:Around} {outer:List Env} {s:Shared} {H:Hp} (e:Env0 P w K mg base A outer s H) :
  Env0 P w K mg base A.in1 outer s H:=⟨e.frames,e.mod,e.bs,e.bsz,e.funs,e.frf,e.hok,e.bare⟩
section
variable {X:Cx} {pins:List (Addr × Obj)} {σ:St} {H:Hp} {s s':Shared}
theorem Inv.env0 (I:Inv X pins σ H s):Env0 X.prog X.w X.K X.mg X.base X.A X.stack s H :=
 ⟨I.ok.frames,I.ok.mod,I.bs,Nat.le_trans I.ok.bsz I.sz,I.stack,I.stkFree,I.hok,I.bare⟩
theorem Inv.after {Q:VK} {u:Value} (I:Inv X pins σ H s) (h:CE X.stack X.prog X.w H s Q u s'):EP X pins σ Q u s':=by
 obtain ⟨v,H',os,bare,un,hok,r,q⟩:=h
 obtain ⟨hh,g,d,t,os'⟩:=s'
 obtain rfl:os' = s.os:=os
 exact ⟨v,H',I.call (h':=hh) (g':=g) (d':=d) (t':=t) (ch:=[]) un hok bare (fun b z => absurd z (by simp)),r,q⟩
end
noncomputable def tCall (sp:Sp) (dvs:List V) (E:XK) (t:TA):TE:=fun σ H Q => t σ H fun vs H1 => sp (vs ++ dvs) H1 Q E
noncomputable def Binds (K:PySem.W.Frag) (fd:FuncData) (ps:List Str) (ds:List Value):Prop :=
 ∀ (s:Shared) (us:List Value),K.In s.heap → (us ++ ds).length = ps.length → BindsTo s fd ⟨us,[]⟩ (ps.zip (us ++ ds))
theorem Binds.all {K:PySem.W.Frag} {fd:FuncData} {ps:List Str} (h:∀ us:List Value,us.length = ps.length → bindArgs fd ⟨us,[]⟩ = pure (ps.zip us)):Binds K fd ps []:=fun s us _ hl => by
 rw [List.append_nil] at hl ⊢
 exact .of_eq (h us hl)
noncomputable def Passes (CX:CXT) (X:Cx) (E:XK):Prop:=∀ (pins:List (Addr × Obj)) (σ:St) (H:Hp) (s:Shared) (e:Value) (s':Shared),Inv X pins σ H s → CX X.stack H s E e s' → X.xe e s'
section
variable {X:Cx} {CX:CXT} {k:Nat} {f C:Addr} {fd:FuncData} {ps:List Str} {sp:Sp} {dvs:List V} {ds:List Value} {E:XK} {x m:Str} {p pos apos:Pos} {e o:Expr} {es:List Expr} {ta:TE} {t:TA}
theorem run_fn {pins:List (Addr × Obj)} {σ:St} {H:Hp} {s:Shared} {Q:VK} {us:List Value} {vs:List V} (F:FnOk X.prog X.w X.K X.mg X.base CX k f fd ps sp) (hr:Room k X.A) (hb:Binds X.K fd ps ds) (hd:Vals dvs ds) (hx:Passes CX X E)
  (I:Inv X pins σ H s) (r:Vals vs us) (h:sp (vs ++ dvs) H Q E):wpAny (model X.prog X.w) X.A (call (.ref f) us) (EP X pins σ Q) X.xe s:=by
 have r2:Vals (vs ++ dvs) (us ++ ds):=r.append hd
 have hl:(us ++ ds).length = ps.length:=by rw [← r2.length]; exact F.len _ _ _ _ h
 refine wpAny_call (codeAny_mono (F.run X.A X.stack s H ⟨us,[]⟩ (us ++ ds) (vs ++ dvs) Q E hr I.env0 (hb s us I.kIn hl) r2 h) fun r s' hq => ?_)
 cases r with
 | error e => exact hx pins σ H s e s' I hq
 | ok fl =>
  cases fl with
  | ret u => exact I.after hq
  | next => exact False.elim hq
  | brk => exact False.elim hq
  | cont => exact False.elim hq
theorem pe_call (F:FnOk X.prog X.w X.K X.mg X.base CX k f fd ps sp) (hr:Room k X.A) (hg:Gl X x) (hm:X.mg x = some (.ref f)) (hk:PySem.W.keepIn X.K (.ref f) = true) (hb:Binds X.K fd ps ds) (hd:Vals dvs ds) (hx:Passes CX X E)
  (ha:PA X (e :: es) t) (hdb:(x == ("__debug__":Str)) = false:=by decide) (he:starEach (e :: es) X.env = (false,eval e X.env) :: starEach es X.env:=by rfl) (hpl:(backTo pos (starEach es X.env)).any (·.1) = false:=by rfl) :
  PE X (.Call (.Name x p) (e :: es) [] pos) (tCall sp dvs E t):=by
 intro pins s σ H Q I h
 refine wpAny_Call_Name_kw (ld_glob I hg hm ?_ hdb)
 refine PySem.W.callWith_K (h₀:=X.base) I.ok.mod.kin hk (thn (ha pos pins s σ H _ I h) fun us s1 ⟨vs,H1,I1,r,q⟩ => ⟨I1.kIn,?_⟩) he hpl
 exact run_fn F hr hb hd hx I1 r q
end
structure FnScope (N P:List Str) (sc:Scope):Prop where
 kind:sc.kind = .function
 co:sc.isCoroutine = false
 gen:sc.isGenerator = false
 nd:N.Nodup
 pre:N.take P.length = P
 par:∀ x ∈ P,sc.names.lookup x = some .local ∨ sc.names.lookup x = some .cell
 nofree:∀ y ∈ sc.names,y.2 ≠ .free
theorem bindL_out {kindOf:Str → Option NameKind} {x:Str}:∀ {binds:List (Str × Value)} {m:Str → Option Value},(∀ v,(x,v) ∉ binds) → bindL kindOf binds m x = m x
 | [],_,_ => rfl
 | (n,v) :: r,m,h => by
  unfold bindL
  rw [bindL_out fun w hw => h w (List.mem_cons_of_mem _ hw)]
  split
  ·have:x ≠ n:=by rintro rfl; exact h v List.mem_cons_self
   simp [this]
  ·rfl
theorem bindC_out {kindOf:Str → Option NameKind} {x:Str}:∀ {binds:List (Str × Value)} {m:Str → Option Value},(∀ v,(x,v) ∉ binds) → bindC kindOf binds m x = m x
 | [],_,_ => rfl
 | (n,v) :: r,m,h => by
  unfold bindC
  rw [bindC_out fun w hw => h w (List.mem_cons_of_mem _ hw)]
  split
  ·rfl
  ·have:x ≠ n:=by rintro rfl; exact h v List.mem_cons_self
   simp [this]
theorem bindL_get {kindOf:Str → Option NameKind} {x:Str} {v:Value}:∀ {P:List Str} {vs:List Value} {i:Nat} {m:Str → Option Value},P.Nodup → P[i]? = some x → vs[i]? = some v → kindOf x = some .local →
  bindL kindOf (P.zip vs) m x = some v
 | [],_,_,_,_,h,_,_ => by simp at h
 | _ :: _,[],_,_,_,_,h,_ => by simp at h
 | p :: P,w :: vs,0,m,nd,h1,h2,hk => by
  simp at h1 h2; subst h1; subst h2
  show bindL kindOf ((p,w) :: P.zip vs) m p = _
  unfold bindL
  rw [bindL_out fun v hv => (List.nodup_cons.mp nd).1 (List.of_mem_zip hv).1,if_pos hk]
  simp
 | p :: P,w :: vs,i + 1,m,nd,h1,h2,hk => by
  show bindL kindOf ((p,w) :: P.zip vs) m x = _
  unfold bindL
  exact bindL_get (i:=i) (List.nodup_cons.mp nd).2 (by simpa using h1) (by simpa using h2) hk
theorem bindC_get {kindOf:Str → Option NameKind} {x:Str} {v:Value}:∀ {P:List Str} {vs:List Value} {i:Nat} {m:Str → Option Value},P.Nodup → P[i]? = some x → vs[i]? = some v → kindOf x ≠ some .local →
  bindC kindOf (P.zip vs) m x = some v
 | [],_,_,_,_,h,_,_ => by simp at h
 | _ :: _,[],_,_,_,_,h,_ => by simp at h
 | p :: P,w :: vs,0,m,nd,h1,h2,hk => by
  simp at h1 h2; subst h1; subst h2
  show bindC kindOf ((p,w) :: P.zip vs) m p = _
  unfold bindC
  rw [bindC_out fun v hv => (List.nodup_cons.mp nd).1 (List.of_mem_zip hv).1,if_neg hk]
  simp
 | p :: P,w :: vs,i + 1,m,nd,h1,h2,hk => by
  show bindC kindOf ((p,w) :: P.zip vs) m x = _
  unfold bindC
  exact bindC_get (i:=i) (List.nodup_cons.mp nd).2 (by simpa using h1) (by simpa using h2) hk
noncomputable def start (N:List Str) (vs:List V):St:=vs.map some ++ List.replicate (N.length - vs.length) none
noncomputable def cxOf (CX:CXT) (P:Program) (w:World) (K:PySem.W.Frag) (mg:Str → Option Value) (base:Heap) (N:List Str) (qual:Str) (scope:Scope) (f:Addr) (cd:Value) (A:Around) (outer:List Env) (s:Shared) (H:Hp) (E:XK):Cx where
 prog:=P
 w:=w
 K:=K
 mg:=mg
 base:=base
 A:=A.deeper (envOfC qual scope s.heap.objs.size f cd)
 N:=N
 s₀:=s
 H₀:=H
 env:=envOfC qual scope s.heap.objs.size f cd
 outer:=outer
 stack:=envOfC qual scope s.heap.objs.size f cd :: outer
 ex:=[]
 calm:=true
 fn:=fun _ => true
 pn:=[]
 xe:=fun e s' => wpAny (model P w) (A.deeper (envOfC qual scope s.heap.objs.size f cd)) (leaving (envOfC qual scope s.heap.objs.size f cd) e) (fun _ s'' => CX outer H s E e s'') (fun e' s'' => CX outer H s E e' s'') s'
theorem cell_has {sc:Scope} {n:Nat} {x:Str} (h:sc.names.lookup x = some .cell):∃ c,(cellsFrom n sc.names []).lookup x = some c:=by
 have q:=PySem.W.cellsFrom_some sc.names n [] (.inl h)
 exact Option.isSome_iff_exists.mp q
theorem inv_start {CX:CXT} {P:Program} {w:World} {K:PySem.W.Frag} {mg:Str → Option Value} {base:Heap} {N ps:List Str} {qual:Str} {scope:Scope} {f:Addr} {cd:Value} {A:Around} {outer:List Env} {s s1:Shared} {H:Hp} {E:XK} {us:List Value} {vs:List V}
  (S:FnScope N ps scope) (hd:A.handled = none) (e0:Env0 P w K mg base A outer s H) (hl:vs.length = ps.length) (r:Vals vs us)
  (x:InCallC s s.heap.objs.size (bindL (envOfC qual scope s.heap.objs.size f cd).kindOf (ps.zip us) fun _ => none) (cellsFrom (s.heap.objs.size + 1) scope.names []) (bindC (envOfC qual scope s.heap.objs.size f cd).kindOf (ps.zip us) fun _ => none) s1) :
  Inv (cxOf CX P w K mg base N qual scope f cd A outer s H E) [] (start N vs) H s1:=by
 have hpl:ps.length ≤ N.length:=by have:=congrArg List.length S.pre; rw [List.length_take] at this; lia
 obtain ⟨h1,tk,rfl,hk⟩:=x.done
 have noA:∀ b:Addr,b ∉ (cxOf CX P w K mg base N qual scope f cd A outer s H E).ex:=fun b z => absurd (show b ∈ ([]:List Addr) from z) (by simp)
 refine ⟨⟨e0.mod,S.kind,rfl,rfl,Nat.le_refl _,fun y z c h1 h2 => ?_,fun y hy => ?_,fun y c _ h => ?_,fun _ => hd,Around.frames_deeper e0.frames,.inr ⟨rfl,rfl⟩,fun b z => absurd z (noA b),e0.bs,e0.bsz,fun b _ _ => noA b,fun b z => absurd z (noA b),e0.funs,e0.frf⟩,
  rfl,e0.bare,Un.kept hk,⟨_,x.toInCall.ns,fun i y v h1 h2 h3 => ?_⟩,fun y c h => ⟨_,x.cell y c h⟩,e0.hok.fresh (Nat.le_refl _),fun y c h => ?_,fun p hp => absurd (show p ∈ ([]:List (Addr × Obj)) from hp) (by simp),e0.hok.kept hk,?_⟩
 ·exact name_of_addr x.apart (PySem.mem_of_lookup h1) (PySem.mem_of_lookup h2)
 ·have hy:scope.names.lookup y = some .cell ∨ scope.names.lookup y = some .free:=hy
  rcases hy with hy | hy
  ·exact cell_has hy
  ·exact absurd rfl (S.nofree _ (PySem.mem_of_lookup hy))
 ·exact Nat.le_of_lt (x.above y c (PySem.mem_of_lookup h))
 ·have hi:i < vs.length:=by
   unfold start at h2
   by_cases hi:i < vs.length
   ·exact hi
   ·rw [List.getElem?_append_right (by simpa using hi)] at h2
    rw [List.getElem?_replicate] at h2
    split at h2 <;> cases h2
  have ha:vs[i]? = some v:=by
   unfold start at h2
   rw [List.getElem?_append_left (by simpa using hi),List.getElem?_map] at h2
   cases e:vs[i]? with
   | none => rw [e] at h2; cases h2
   | some a => rw [e] at h2; cases h2; rfl
  obtain ⟨u,hu,rv⟩:=r.get ha
  have hp:ps[i]? = some y:=by
   rw [← S.pre,List.getElem?_take_of_lt (by lia)]; exact h1
  have ndP:ps.Nodup:=by rw [← S.pre]; exact S.nd.sublist (List.take_sublist _ _)
  refine ⟨u,rv,?_⟩
  rcases S.par y (List.mem_of_getElem? hp) with k | k
  ·exact .inl ⟨k,bindL_get ndP hp hu k⟩
  ·obtain ⟨c,e⟩:=cell_has (n:=s.heap.objs.size + 1) k
   refine .inr ⟨.inl k,c,e,?_⟩
   have q:=x.cell y c e
   rw [bindC_get ndP hp hu (by show scope.names.lookup y ≠ _; rw [k]; decide)] at q
   exact q
 ·exact e0.hok.fresh (Nat.le_of_lt (x.above y c (PySem.mem_of_lookup h)))
 ·unfold start
  show _ = N.length
  rw [List.length_append,List.length_map,List.length_replicate]
  lia
theorem fn_of {CX:CXT} {P:Program} {w:World} {K:PySem.W.Frag} {mg:Str → Option Value} {base:Heap} {k:Nat} {f:Addr} {name qual:Str} {params:Arguments} {body:List Stmt} {scope:Scope} {dV kV doc pm cdv ct oc:Value} {an od:Option Addr}
  {osl:Array (Option Value)} {N ps:List Str} {sp:Sp} (lk:K.lookup f = some ⟨oc,od,.func (PySem.W.fnOf name qual params body scope dV kV doc pm an cdv ct),osl⟩) (hcd:PySem.W.codeIn K cdv qual = true) (S:FnScope N ps scope)
  (len:∀ vs H Q E,sp vs H Q E → vs.length = ps.length)
  (hbody:∀ (A:Around) (outer:List Env) (s:Shared) (H:Hp) (vs:List V) (Q:VK) (E:XK),Room k (A.deeper (envOfC qual scope s.heap.objs.size f cdv)) → sp vs H Q E →
   ∃ t,PSs (cxOf CX P w K mg base N qual scope f cdv A outer s H E) body t ∧ t { nx:=fun _ H' => Q .non H',rt:=Q } (start N vs) H) :
  FnOk P w K mg base CX (k + 1) f (PySem.W.fnOf name qual params body scope dV kV doc pm an cdv ct) ps sp:=by
 refine ⟨len,fun A outer s H args us vs Q E hr e0 hb r hsp => ?_⟩
 have hl:=len _ _ _ _ hsp
 have KX:K.In s.heap:=e0.mod.kin.keeps fun b o e => (e0.bs b o e).1
 have lim:s.heap.NoLimit:=e0.mod.nolimit.keeps fun b o e => (e0.bs b o e).1
 have hkind:∀ y ∈ ps.zip us,scope.names.lookup y.1 = some .local ∨ (scope.names.lookup y.1 = some .cell ∧ ((cellsFrom (s.heap.objs.size + 1) scope.names []).lookup y.1).isSome = true):=fun hX11_ hy => by
  obtain ⟨n,v⟩:=hX11_
  rcases S.par n (List.of_mem_zip hy).1 with q | q
  ·exact .inl q
  ·exact .inr ⟨q,PySem.W.cellsFrom_some _ _ _ (.inl q)⟩
 refine codeAny_call_function hr.depth (KX _ _ lk) rfl S.co S.gen rfl (PySem.W.codeRec_of KX hcd) (hb _ _ _ _ ?_)
 refine wpAny_newFunctionEnv_cells S.kind hkind fun env he s1 x => ?_
 subst he
 refine ⟨lim.keeps x.toInCall.keep,codeAny_func ?_⟩
 obtain ⟨t,ht,hq⟩:=hbody A outer s H vs Q E (hr.deeper _) hsp
 have I:Inv (cxOf CX P w K mg base N qual scope f cdv A outer s H E) [] (start N vs) H s1:=inv_start S hr.hd e0 hl r x
 refine wpAny_mono (ht [] s1 (start N vs) H _ I hq) (fun fl s' hs => ?_) fun e s' hs => hs
 have fin:∀ {σ':St} {H':Hp} {v:V} {u:Value},Inv (cxOf CX P w K mg base N qual scope f cdv A outer s H E) [] σ' H' s' → RelV v u → Q v H' → CE outer P w H s Q u s' :=
  fun {σ' H' v u} J rv q => ⟨v,H',J.os,J.bare,J.base,J.hok,rv,q⟩
 cases fl with
 | ret u =>
  obtain ⟨v,σ',H',J,rv,q⟩:=hs
  exact fin J rv q
 | next =>
  obtain ⟨σ',H',J,q⟩:=hs
  exact fin (v:=V.non) (u:=Value.none) J rfl q
 | brk =>
  obtain ⟨_,_,_,q⟩:=hs
  exact False.elim q
 | cont =>
  obtain ⟨_,_,_,q⟩:=hs
  exact False.elim q
end L2
namespace L2
open PySem PySem.Spec PyProof.Rows
section
variable {X:Cx} {x:Str} {p pos:Pos} {e:Expr} {es:List Expr} {t:TA} {id T:String} {r:List V → Hp → VK → Prop}
noncomputable def tCB (r:List V → Hp → VK → Prop) (t:TA):TE:=fun σ H Q => t σ H fun vs H1 => r vs H1 Q
theorem pe_callB (hc:CallR X (.builtin id) r) (hg:Gl X x) (hm:X.mg x = none) (hv:bootBuiltins x = some (.builtin id)) (ha:PA X (e :: es) t) (hn:x ≠ "__name__":=by decide) (hdb:(x == ("__debug__":Str)) = false:=by decide)
  (he:starEach (e :: es) X.env = (false,eval e X.env) :: starEach es X.env:=by rfl) (hpl:(backTo pos (starEach es X.env)).any (·.1) = false:=by rfl):PE X (.Call (.Name x p) (e :: es) [] pos) (tCB r t):=by
 intro pins s σ H Q I h
 refine wpAny_Call_Name_kw (ld_blt I hg hm hv ?_ hn hdb)
 exact PyProof.Rows.callWith_builtin1 (thn (ha pos pins s σ H _ I h) fun us s1 ⟨vs,H1,I1,r1,q1⟩ => hc pins s1 σ H1 vs us Q I1 r1 q1) he hpl
theorem pe_callTy (hc:CallR X (.type T) r) (hg:Gl X x) (hm:X.mg x = none) (hv:bootBuiltins x = some (.type T)) (ha:PA X (e :: es) t) (hn:x ≠ "__name__":=by decide) (hdb:(x == ("__debug__":Str)) = false:=by decide)
  (he:starEach (e :: es) X.env = (false,eval e X.env) :: starEach es X.env:=by rfl) (hpl:(backTo pos (starEach es X.env)).any (·.1) = false:=by rfl):PE X (.Call (.Name x p) (e :: es) [] pos) (tCB r t):=by
 intro pins s σ H Q I h
 refine wpAny_Call_Name_kw (ld_blt I hg hm hv ?_ hn hdb)
 exact PyProof.Rows.callWith_type1 (thn (ha pos pins s σ H _ I h) fun us s1 ⟨vs,H1,I1,r1,q1⟩ => hc pins s1 σ H1 vs us Q I1 r1 q1) he hpl
end
end L2
namespace HT
open PySem PyProof.Rows
section
open PySem.SeqAt
open PySem.AutoSeq1 (wpAny_loadPart')
open PySem.MeetsSeq PySem.MeetsSeq2 PySem.MeetsSeq3
end
section
variable {prog:Program} {w:World} {A:Around} {E:Value → Shared → Prop} {s:Shared}
theorem cat_tup {t b:Addr} {vs ws:List Value} {Q:Value → Shared → Prop} (ht:IsTup s.heap t vs.toArray) (hb:IsTup s.heap b ws.toArray) (hv:vs ≠ [])
  (h1:ws = [] → Q (.ref t) s) (h2:ws ≠ [] → Q (.ref s.heap.objs.size) { s with heap:=s.heap.push { cls:=.type "tuple",data:=.seq (vs ++ ws).toArray } })
  (hsz:vs.length + ws.length ≤ sizeLine):wpAny (model prog w) A (binaryOp .Add (.ref t) (.ref b)) Q E s:=by
 obtain ⟨⟨cls,dd,data,sl⟩,ho,hc,n,hd⟩:=id ht
 obtain ⟨⟨cls2,dd2,data2,sl2⟩,ho2,hc2,n2,hd2⟩:=id hb
 simp only at hc hd hc2 hd2
 subst hc hd hc2 hd2
 have e:vs.toArray ++ ws.toArray = (vs ++ ws).toArray:=by simp
 by_cases hw:ws = []
 ·exact concat_meets ⟨_,ho,rfl⟩ ⟨_,ho2,rfl⟩ noFill_tuple_add seq_tuple_add PySem.F.slot_tuple_add PySem.F.entry_tuple_add (PySem.F.args_tuple_add_2 _ _)
   (tuple_addW1 t b vs.toArray ws.toArray n n2 dd dd2 sl sl2 (by simpa using hv) (by simp [hw])) ⟨ho,ho2,h1 hw⟩
 ·refine concat_meets ⟨_,ho,rfl⟩ ⟨_,ho2,rfl⟩ noFill_tuple_add seq_tuple_add PySem.F.slot_tuple_add PySem.F.entry_tuple_add (PySem.F.args_tuple_add_2 _ _)
   (tuple_addW2 t b vs.toArray ws.toArray n n2 dd dd2 sl sl2 (by simpa using hv) (by simpa using hw) (by rw [List.size_toArray,List.size_toArray]; exact hsz)) ⟨ho,ho2,?_⟩
  rw [e]
  exact h2 hw
noncomputable def sIx (n d:Nat):Option Int → Nat
 | none => d
 | some v => if v < 0 then (v + (n:Int)).toNat else min v.toNat n
theorem sIx_le (n d:Nat) (hd:d ≤ n) (o:Option Int):sIx n d o ≤ n:=by
 cases o with
 | none => exact hd
 | some v =>
  show (if v < 0 then (v + (n:Int)).toNat else min v.toNat n) ≤ n
  by_cases hv:v < 0
  ·rw [if_pos hv]; lia
  ·rw [if_neg hv]; exact Nat.min_le_right _ _
theorem clip_eq (v:Int) (n d:Nat):(if v < 0 then max (v + (n:Int)) 0 else min v (n:Int)) = ((sIx n d (some v):Nat):Int):=by
 show (if v < 0 then max (v + (n:Int)) 0 else min v (n:Int)) = (((if v < 0 then (v + (n:Int)).toNat else min v.toNat n):Nat):Int)
 by_cases hv:v < 0
 ·simp only [if_pos hv]; lia
 ·simp only [if_neg hv]; lia
theorem adjust_gen (lo hi:Option Int) (n:Nat):Builtin.Slice.sliceAdjust lo hi 1 (n:Int) = (((sIx n 0 lo:Nat):Int),((sIx n n hi:Nat):Int)):=by
 have h1:¬ ((1:Int) < 0):=by lia
 unfold Builtin.Slice.sliceAdjust
 simp only [h1,if_false]
 refine Prod.ext ?_ ?_
 ·cases lo with
  | none => rfl
  | some v => exact clip_eq v n 0
 ·cases hi with
  | none => rfl
  | some v => exact clip_eq v n n
theorem places_gen (i j:Nat):Builtin.Slice.slicePlaces (i:Int) (j:Int) 1 = j - i:=by
 unfold Builtin.Slice.slicePlaces
 have h1:(1:Int) > 0:=by lia
 simp only [h1,if_true,Int.ediv_one]
 split <;> lia
theorem slicePart_ {v:Value} {o:Option Int} {Q:Option Int → Shared → Prop} (p:IsPart v o) (h:Q o s):wpAny (model prog w) A (Builtin.Slice.slicePartIndex v) Q E s:=by
 cases p with
 | none => exact slicePart_none h
 | int i t => exact slicePart_int h
theorem sliceApplied_gen {sl:Addr} {vl vu:Value} {lo hi:Option Int} {n:Nat} {Q:Int × Int × Nat → Shared → Prop} (hs:s.heap.IsSliceOf sl vl vu .none) (pl:IsPart vl lo) (pu:IsPart vu hi)
  (h:Q (((sIx n 0 lo:Nat):Int),1,sIx n n hi - sIx n 0 lo) s):wpAny (model prog w) A (Builtin.Slice.sliceApplied (.ref sl) (pure (n:Int))) Q E s:=by
 obtain ⟨os,hos,hcs,hds⟩:=id hs
 unfold Builtin.Slice.sliceApplied Builtin.Slice.sliceFields
 refine wpAny_bind (wpAny_bind (wpAny_field hos hds (x:=vl) rfl (wpAny_bind (wpAny_field hos hds (x:=vu) rfl (wpAny_bind (wpAny_field hos hds (x:=.none) rfl (wpAny_pure ?_)))))))
 refine wpAny_bind (slicePart_none ?_)
 show wpAny _ _ (if ((1:Int) == 0) = true then _ else _) _ _ s
 rw [if_neg (by decide)]
 refine wpAny_bind (slicePart_ pl (wpAny_bind (slicePart_ pu (wpAny_bind (wpAny_pure ?_)))))
 show wpAny _ _ (match Builtin.Slice.sliceAdjust lo hi 1 (n:Int) with | (lo,hi) => pure (lo,(1:Int),Builtin.Slice.slicePlaces lo hi 1)) _ _ s
 rw [adjust_gen lo hi n]
 show wpAny _ _ (pure (((sIx n 0 lo:Nat):Int),(1:Int),Builtin.Slice.slicePlaces ((sIx n 0 lo:Nat):Int) ((sIx n n hi:Nat):Int) 1)) _ _ s
 rw [places_gen]
 exact wpAny_pure h
theorem pick_gen (xs:Array Value) (i k:Nat):((List.range k).filterMap fun (m:Nat) => xs[((i:Int) + (m:Int) * 1).toNat]?).toArray = ((xs.toList.drop i).take k).toArray:=by
 have e:(fun (m:Nat) => xs[((i:Int) + (m:Int) * 1).toNat]?) = fun m => xs[i + m]?:=by
  funext m
  have:((i:Int) + (m:Int) * 1).toNat = i + m:=by lia
  rw [this]
 rw [e]
 have:=pick_run xs i k
 rw [List.filterMap_map] at this
 have e2:((fun x => xs[x]?) ∘ fun x => i + x) = fun m => xs[i + m]?:=rfl
 rw [e2] at this
 rw [this]
theorem getItem_tuple_cut {t sl:Addr} {items:Array Value} {vl vu:Value} {lo hi:Option Int} {Q:Value → Shared → Prop} (ht:IsTup s.heap t items) (hs:s.heap.IsSliceOf sl vl vu .none) (pl:IsPart vl lo) (pu:IsPart vu hi)
  (hw:¬ (sIx items.size 0 lo = 0 ∧ sIx items.size items.size hi = items.size))
  (h:Q (.ref s.heap.objs.size) { s with heap:=s.heap.push { cls:=.type "tuple",data:=.seq ((items.toList.drop (sIx items.size 0 lo)).take (sIx items.size items.size hi - sIx items.size 0 lo)).toArray } })
  (hsz:items.size ≤ sizeLine):wpAny (model prog w) A (getItem (.ref t) (.ref sl)) Q E s:=by
 have htake:sizeOk (.seq ((items.toList.drop (sIx items.size 0 lo)).take (sIx items.size items.size hi - sIx items.size 0 lo)).toArray):=by
  show ((items.toList.drop (sIx items.size 0 lo)).take (sIx items.size items.size hi - sIx items.size 0 lo)).toArray.size ≤ sizeLine
  rw [List.size_toArray,List.length_take,List.length_drop,Array.length_toList]
  lia
 have hj:sIx items.size items.size hi ≤ items.size:=sIx_le _ _ (Nat.le_refl _) hi
 obtain ⟨os,hos,hcs,hds⟩:=id hs
 have hTs:s.TypeIs (.ref sl) "slice":=⟨os,hos,hcs⟩
 unfold getItem
 try with_reducible refine wpAny_holding ?_
 first | refine wpAny_bind (wpAny_pure ?_) | skip
 refine wpAny_bind (wpAny_sequenceKey ht.typeIs (by decide) ?_)
 refine wpAny_bind (wpAny_callSpecial?_slot (name:=Str.ofString "__getitem__") ht.typeIs PyProof.Rows.slot_tuple_getitem
  (wpAny_call_entry PyProof.Rows.slot_tuple_getitem ht.typeIs entry_tuple_getitem ?_ (args_tuple_getitem _ _)))
 show wpAny _ _ (Builtin.Tuple.tupleItemsOf (.ref t) >>= _) _ _ s
 refine wpAny_bind (tupleItemsOf_ ht ?_)
 refine wpAny_bind (wpAny_typeOf hTs ?_)
 rw [if_pos (by decide)]
 refine wpAny_bind (sliceApplied_gen hs pl pu ?_)
 have hno:¬ ((((sIx items.size 0 lo:Nat):Int) == 0 && (1:Int) == 1 && (sIx items.size items.size hi - sIx items.size 0 lo) == items.size) = true):=by
  intro q
  rw [Bool.and_eq_true,Bool.and_eq_true] at q
  have q1:((sIx items.size 0 lo:Nat):Int) = 0:=eq_of_beq q.1.1
  have q2:sIx items.size items.size hi - sIx items.size 0 lo = items.size:=eq_of_beq q.2
  exact hw ⟨by lia,by lia⟩
 show wpAny _ _ (if (((sIx items.size 0 lo:Nat):Int) == 0 && (1:Int) == 1 && (sIx items.size items.size hi - sIx items.size 0 lo) == items.size) = true then _ else _) _ _ s
 rw [if_neg hno,pick_gen]
 first
  | exact wpAny_bind (m:=Builtin.Tuple.tupleExact _) (wpAny_newObj_type (wpAny_pure ⟨_,rfl,wpAny_pure h⟩) htake)
  | exact wpAny_bind (m:=Builtin.Tuple.tupleExact _) (wpAny_newObj_type (wpAny_bind (wpAny_pure (wpAny_pure ⟨_,rfl,wpAny_pure h⟩))) htake)
  | exact wpAny_bind (wpAny_bind (m:=Builtin.Tuple.tupleExact _) (wpAny_newObj_type (wpAny_pure (wpAny_pure ⟨_,rfl,wpAny_pure h⟩)) htake))
  | exact wpAny_bind (wpAny_bind (m:=Builtin.Tuple.tupleExact _) (wpAny_newObj_type (wpAny_pure ⟨_,rfl,wpAny_pure h⟩) htake))
end
end HT
namespace L2
open PySem PySem.Spec PyProof.Rows
noncomputable abbrev TO:=St → Hp → (Option Int → Hp → Prop) → Prop
noncomputable def PO (X:Cx) (e:Option Expr) (t:TO):Prop :=
 ∀ (pins:List (Addr × Obj)) (s:Shared) (σ:St) (H:Hp) (Q:Option Int → Hp → Prop),Inv X pins σ H s → t σ H Q →
  wpAny (model X.prog X.w) X.A (evalPart e X.env) (fun u s' => ∃ o H',Inv X pins σ H' s' ∧ IsPart u o ∧ Q o H') X.xe s
noncomputable def tNoPart:TO:=fun _ H Q => Q none H
noncomputable def tPart (t:TE):TO:=fun σ H Q => t σ H fun x H1 => ∃ i,x = .int i ∧ Q (some i) H1
section
variable {X:Cx} {e:Expr} {te:TE} {lo hi:Option Expr} {tl th:TO} {pos p2:Pos}
theorem po_none:PO X none tNoPart:=by
 intro pins s σ H Q I h
 rw [evalPart_none]
 exact wpAny_pure ⟨none,H,I,.none,h⟩
theorem po_some (h:PE X e te):PO X (some e) (tPart te):=by
 intro pins s σ H Q I hw
 rw [evalPart_some]
 refine thn (h pins s σ H _ I hw) fun u s1 hX11_ => ?_
 obtain ⟨x,H1,I1,r1,q1⟩:=hX11_
 obtain ⟨i,rfl,q⟩:=q1
 obtain ⟨t,rfl⟩:=r1
 exact ⟨some i,H1,I1,.int i t,q⟩
noncomputable def SlR (X:Cx) (r:V → Option Int → Option Int → Hp → VK → Prop):Prop :=
 ∀ (pins:List (Addr × Obj)) (s:Shared) (σ:St) (H:Hp) (x:V) (v vl vu:Value) (lo hi:Option Int) (sl:Addr) (Q:VK),Inv X pins σ H s → RelV x v → s.heap.IsSliceOf sl vl vu .none → IsPart vl lo → IsPart vu hi → r x lo hi H Q →
  ∃ T id,typeLookup (.type T) "__getitem__" = pure (some (.builtin id)) ∧ s.TypeIs v T ∧ wpAny (model X.prog X.w) X.A (getItem v (.ref sl)) (EP X pins σ Q) X.xe s
theorem SlR.or {r r':V → Option Int → Option Int → Hp → VK → Prop} (h:SlR X r) (h':SlR X r'):SlR X (fun x lo hi H Q => r x lo hi H Q ∨ r' x lo hi H Q):=by
 intro pins s σ H x v vl vu lo hi sl Q I rx hs pl pu q
 rcases q with q | q
 ·exact h pins s σ H x v vl vu lo hi sl Q I rx hs pl pu q
 ·exact h' pins s σ H x v vl vu lo hi sl Q I rx hs pl pu q
noncomputable def tSl (r:V → Option Int → Option Int → Hp → VK → Prop) (te:TE) (tl th:TO):TE:=fun σ H Q => te σ H fun x H1 => tl σ H1 fun l H2 => th σ H2 fun u H3 => r x l u H3 Q
theorem pe_slice {r:V → Option Int → Option Int → Hp → VK → Prop} (hr:SlR X r) (he:PE X e te) (hl:PO X lo tl) (hu:PO X hi th):PE X (.Subscript e (.Slice lo hi none p2) pos) (tSl r te tl th):=by
 intro pins s σ H Q I h
 refine Subscript_ (thn (he pins s σ H _ I h) fun v s1 hX11_ => ?_)
 obtain ⟨x,H1,I1,r1,q1⟩:=hX11_
 refine wpAny_Slice (thn (hl pins s1 σ H1 _ I1 q1) fun vl s2 ⟨l,H2,I2,pl,q2⟩ => thn (hu pins s2 σ H2 _ I2 q2) fun vu s3 hX21_ => ?_)
 obtain ⟨u,H3,I3,pu,q3⟩:=hX21_
 rw [evalPart_none]
 refine wpAny_pure ?_
 have I4:Inv X pins σ H3 { s3 with heap:=s3.heap.push { cls:=.type "slice",data:=.fields #[vl,vu,.none] } }:=I3.kept (t':=s3.toks) fun b ob q => Heap.get?_push_of_some _ q
 obtain ⟨T,id,hT,ht,hg⟩:=hr pins { s3 with heap:=s3.heap.push { cls:=.type "slice",data:=.fields #[vl,vu,.none] } } σ H3 x v vl vu l u s3.heap.objs.size Q I4 r1 (Heap.IsSliceOf.new ..) pl pu q3
 show wpAny (model X.prog X.w) X.A (subscriptTail e (.Slice lo hi none p2) v (.ref s3.heap.objs.size)) (EP X pins σ Q) X.xe { s3 with heap:=s3.heap.push { cls:=.type "slice",data:=.fields #[vl,vu,.none] } }
 exact tail_any (ops:=[.ref s3.heap.objs.size,v]) ht hT hg (by with_unfolding_all rfl)
noncomputable def cutV (xs:List V) (lo hi:Option Int):List V:=(xs.drop (HT.sIx xs.length 0 lo)).take (HT.sIx xs.length xs.length hi - HT.sIx xs.length 0 lo)
theorem cutV_length (xs:List V) (lo hi:Option Int):(cutV xs lo hi).length ≤ xs.length:=by
 unfold cutV
 rw [List.length_take,List.length_drop]
 lia
noncomputable def rSlT (K:PySem.W.Frag):V → Option Int → Option Int → Hp → VK → Prop:=fun x lo hi H Q => ∃ a xs,x = .ref a ∧ SqT K H a xs ∧
 ¬ (HT.sIx xs.length 0 lo = 0 ∧ HT.sIx xs.length xs.length hi = xs.length) ∧ ∀ p,H p = none → Q (.ref p) (upd H p (.tup (cutV xs lo hi)))
theorem sl_tup:SlR X (rSlT X.K):=by
 intro pins s σ H x v vl vu lo hi sl Q I rx hs pl pu h
 obtain ⟨a,xs,rfl,hx,hw,q⟩:=h
 cases rx
 obtain ⟨its,r,ht,hz⟩:=I.tuple hx
 have hlen:its.toArray.size = xs.length:=by rw [List.size_toArray]; exact r.length.symm
 refine ⟨"tuple",_,PyProof.Rows.slot_tuple_getitem.lookup,ht.typeIs,?_⟩
 refine HT.getItem_tuple_cut ht hs pl pu (by rw [hlen]; exact hw) ?_ (by rw [hlen]; exact hz)
 rw [hlen]
 refine ⟨.ref s.heap.objs.size,_,I.laid (t':=s.toks) (o:=.tup (cutV xs lo hi)) (fun b ob q => Heap.get?_push_of_some _ q) (Nat.le_refl _) ?_,rfl,q _ (I.hok.fresh (Nat.le_refl _))⟩
 exact ⟨Nat.le_trans (cutV_length xs lo hi) hz,_,(r.drop (HT.sIx xs.length 0 lo)).take (HT.sIx xs.length xs.length hi - HT.sIx xs.length 0 lo),IsTup.new _ _⟩
noncomputable def rCatT (K:PySem.W.Frag):R2:=fun x y H Q => ∃ a b xs ys,x = .ref a ∧ y = .ref b ∧ SqT K H a xs ∧ SqT K H b ys ∧ xs ≠ [] ∧ xs.length + ys.length ≤ sizeLine ∧
 (ys = [] → Q (.ref a) H) ∧ (ys ≠ [] → ∀ p,H p = none → Q (.ref p) (upd H p (.tup (xs ++ ys))))
theorem Vals.nil_iff {xs:List V} {us:List Value} (r:Vals xs us):us = [] ↔ xs = []:=by
 cases r with
 | nil => simp
 | cons _ _ => simp
theorem op_catT:OpR X (binaryOp .Add) (rCatT X.K):=by
 intro pins s σ H x y v u Q I rx ry h
 obtain ⟨a,b,xs,ys,rfl,rfl,ha,hb,hx,hz,q1,q2⟩:=h
 cases rx
 cases ry
 obtain ⟨its,r1,p1,_⟩:=I.tuple ha
 obtain ⟨its2,r2,p2,_⟩:=I.tuple hb
 refine HT.cat_tup p1 p2 (fun z => hx (r1.nil_iff.mp z)) (fun z => ⟨.ref a,H,I,rfl,q1 (r2.nil_iff.mp z)⟩) (fun z => ?_) (by rw [← r1.length,← r2.length]; exact hz)
 refine ⟨.ref s.heap.objs.size,_,I.laid (t':=s.toks) (o:=.tup (xs ++ ys)) (fun b ob q => Heap.get?_push_of_some _ q) (Nat.le_refl _) ?_,rfl,q2 (fun w => z (r2.nil_iff.mpr w)) _ (I.hok.fresh (Nat.le_refl _))⟩
 exact ⟨by rw [List.length_append]; exact hz,_,r1.append r2,IsTup.new _ _⟩
end
end L2
namespace L2
open PySem PySem.Spec PyProof.Rows
noncomputable def ixN (n:Nat) (i:Int):Option Nat:=if 0 ≤ i then (if i < n then some i.toNat else none) else if -(n:Int) ≤ i then some (i + n).toNat else none
noncomputable def atI {α:Type} (xs:List α) (i:Int):Option α:=(ixN xs.length i).bind fun j => xs[j]?
theorem ixN_seq {n:Nat} {i:Int} {j:Nat} (h:ixN n i = some j):seqIndex? i n = some j ∧ j < n ∧ -(n:Int) ≤ i ∧ i < n:=by
 unfold ixN at h
 by_cases h0:0 ≤ i
 ·rw [if_pos h0] at h
  by_cases h1:i < n
  ·rw [if_pos h1] at h
   have e:i.toNat = j:=Option.some.inj h
   exact ⟨by rw [seqIndex_of h0 h1,e],by lia,by lia,h1⟩
  ·rw [if_neg h1] at h; cases h
 ·rw [if_neg h0] at h
  by_cases h1:-(n:Int) ≤ i
  ·rw [if_pos h1] at h
   have e:(i + n).toNat = j:=Option.some.inj h
   exact ⟨by rw [seqIndex_neg (by lia) h1,e],by lia,h1,by lia⟩
  ·rw [if_neg h1] at h; cases h
theorem atI_get {α:Type} {xs:List α} {i:Int} {v:α} (h:atI xs i = some v):∃ j,seqIndex? i xs.length = some j ∧ xs[j]? = some v ∧ j < xs.length ∧ -(xs.length:Int) ≤ i ∧ i < xs.length:=by
 unfold atI at h
 cases e:ixN xs.length i with
 | none => rw [e] at h; cases h
 | some j =>
  rw [e] at h
  obtain ⟨h1,h2,h3,h4⟩:=ixN_seq e
  exact ⟨j,h1,h,h2,h3,h4⟩
noncomputable def PlainIx (b:Expr):Prop:=∀ o i,subscripted b false o i = operate [o,i] (getItem o i)
noncomputable def IxR (X:Cx) (r:R2):Prop :=
 ∀ (value slice:Expr) (pins:List (Addr × Obj)) (s:Shared) (σ:St) (H:Hp) (x y:V) (v u:Value) (Q:VK),Inv X pins σ H s → RelV x v → RelV y u → r x y H Q →
  subscripted slice false v u = operate [v,u] (getItem v u) → wpAny (model X.prog X.w) X.A (subscriptTail value slice v u) (EP X pins σ Q) X.xe s
noncomputable def MtR (X:Cx) (id:String) (r:V → List V → Hp → VK → Prop):Prop :=
 ∀ (pins:List (Addr × Obj)) (s:Shared) (σ:St) (H:Hp) (x:V) (xs:List V) (v:Value) (us:List Value) (Q:VK),Inv X pins σ H s → RelV x v → Vals xs us → r x xs H Q →
  wpAny (model X.prog X.w) X.A (call (.builtin id) (v :: us)) (EP X pins σ Q) X.xe s
section
variable {X:Cx} {a b:Expr} {ta tb:TE} {pos:Pos}
theorem IxR.or {r r':R2} (h:IxR X r) (h':IxR X r'):IxR X (fun x y H Q => r x y H Q ∨ r' x y H Q):=by
 intro value slice pins s σ H x y v u Q I rx ry q hs
 rcases q with q | q
 ·exact h value slice pins s σ H x y v u Q I rx ry q hs
 ·exact h' value slice pins s σ H x y v u Q I rx ry q hs
theorem pe_ix {r:R2} (hr:IxR X r) (ha:PE X a ta) (hb:PE X b tb) (hs:PlainIx b):PE X (.Subscript a b pos) (tOp r ta tb):=by
 intro pins s σ H Q I h
 exact Subscript_ (binT ha hb I h fun v u s2 x y H2 I2 rx ry q => hr a b pins s2 σ H2 x y v u Q I2 rx ry q (hs _ _))
noncomputable def rIxL (K:PySem.W.Frag):R2:=fun x y H Q => ∃ p xs i v,x = .ref p ∧ y = .int i ∧ SqL K H p xs ∧ atI xs i = some v ∧ Q v H
noncomputable def rIxT (K:PySem.W.Frag):R2:=fun x y H Q => ∃ p xs i v,x = .ref p ∧ y = .int i ∧ SqT K H p xs ∧ atI xs i = some v ∧ Q v H
noncomputable def rIxS:R2:=fun x y H Q => ∃ z i c,x = .str z ∧ y = .int i ∧ z.length ≤ sizeLine ∧ atI z.cps.toList i = some c ∧ Q (.str ⟨#[c]⟩) H
theorem ix_list:IxR X (rIxL X.K):=by
 intro value slice pins s σ H x y v u Q I rx ry h hs
 obtain ⟨p,xs,i,z,rfl,rfl,hq,he,q⟩:=h
 cases rx
 obtain ⟨t,rfl⟩:=ry
 obtain ⟨its,r,pl,hz⟩:=I.list hq
 obtain ⟨j,h1,h2,h3,h4,h5⟩:=atI_get he
 obtain ⟨w,ew,rw'⟩:=r.get h2
 have hl:=r.length
 have hn:=line63
 have fin:EP X pins σ Q w s:=⟨z,H,I,rw',q⟩
 by_cases h0:0 ≤ i
 ·have hj:i.toNat = j:=by
   rw [seqIndex_of h0 h5] at h1
   exact Option.some.inj h1
  exact item_listR pl.isList h0 (by lia) (by rw [hj]; simpa using ew) fin hs
 ·have hj:(i + (its.toArray.size:Int)).toNat = j:=by
   rw [seqIndex_neg (by lia) h4] at h1
   rw [List.size_toArray,← hl]
   exact Option.some.inj h1
  exact subscriptTail_builtinR (x:=w) pl.isList.typeIs slot_list_getitem.lookup
   (wpAny_getItem_list_neg (Q:=fun r s' => r = w ∧ EP X pins σ Q r s') pl.isList (by lia) (by rw [List.size_toArray] <;> lia) (by lia) (by rw [hj]; simpa using ew) ⟨rfl,fin⟩) hs
theorem ix_tup:IxR X (rIxT X.K):=by
 intro value slice pins s σ H x y v u Q I rx ry h hs
 obtain ⟨p,xs,i,z,rfl,rfl,hq,he,q⟩:=h
 cases rx
 obtain ⟨t,rfl⟩:=ry
 obtain ⟨its,r,pl,hz⟩:=I.tuple hq
 obtain ⟨j,h1,h2,h3,h4,h5⟩:=atI_get he
 obtain ⟨w,ew,rw'⟩:=r.get h2
 have hl:=r.length
 have hn:=line63
 have fin:EP X pins σ Q w s:=⟨z,H,I,rw',q⟩
 exact subscriptTail_builtinR (x:=w) pl.typeIs slot_tuple_getitem.lookup
  (getItem_tuple (j:=j) (Q:=fun r s' => r = w ∧ EP X pins σ Q r s') pl (by lia) (by lia) (by rw [List.size_toArray,← hl]; exact h1) (by simpa using ew) ⟨rfl,fin⟩) hs
theorem ix_str:IxR X rIxS:=by
 intro value slice pins s σ H x y v u Q I rx ry h hs
 obtain ⟨z,i,c,rfl,rfl,hz,he,q⟩:=h
 obtain ⟨t,rfl⟩:=rx
 obtain ⟨t',rfl⟩:=ry
 obtain ⟨j,h1,h2,h3,h4,h5⟩:=atI_get he
 have hl:z.cps.toList.length = z.length:=by simp [Str.length]
 rw [hl] at h1 h4 h5
 have hn:=line63
 exact tail_any (typeIs_str s z t) slot_str_getitem.lookup (getItem_str (c:=c) (by
  have e1:decide (i < -(2 ^ 63:Int)) = false:=decide_eq_false (by lia)
  have e2:decide (i ≥ 2 ^ 63) = false:=decide_eq_false (by lia)
  rw [e1,e2,Bool.or_false]) (by rw [h1]; simpa using h2) ⟨.str ⟨#[c]⟩,H,I.tok _,⟨_,rfl⟩,q⟩) hs
noncomputable def rIx (K:PySem.W.Frag):R2:=fun x y H Q => rIxL K x y H Q ∨ rIxT K x y H Q ∨ rIxS x y H Q
theorem ix_seq:IxR X (rIx X.K):=ix_list.or (ix_tup.or ix_str)
theorem mapSeq_set (its:List Value) (n j:Nat) (u:Value):Obj.mapSeq (·.setIfInBounds j u) { cls:=.type "list",data:=.seq its.toArray n } = { cls:=.type "list",data:=.seq (its.set j u).toArray n }:=by
 simp [Obj.mapSeq]
theorem Inv.lst {pins:List (Addr × Obj)} {σ:St} {H:Hp} {s:Shared} {p:Addr} {xs:List V} (I:Inv X pins σ H s) (h:H p = some (.lst xs)) :
  ∃ (its:List Value) (n:Nat),Vals xs its ∧ s.heap.get? p = some { cls:=.type "list",data:=.seq its.toArray n } ∧ xs.length ≤ sizeLine:=by
 obtain ⟨z,its,n,r,e⟩:=I.hok p _ h
 exact ⟨its,n,r,e,z⟩
theorem Inv.lstUpd {pins:List (Addr × Obj)} {σ:St} {H:Hp} {s:Shared} {p:Addr} {xs ys:List V} {its its':List Value} {n n':Nat} {f:Obj → Obj} (I:Inv X pins σ H s) (h:H p = some (.lst xs))
  (ho:s.heap.get? p = some { cls:=.type "list",data:=.seq its.toArray n }) (hf:f { cls:=.type "list",data:=.seq its.toArray n } = { cls:=.type "list",data:=.seq its'.toArray n' }) (r:Vals ys its') (hz:ys.length ≤ sizeLine) (t:Nat) :
  Inv X pins σ (upd H p (.lst ys)) { s with heap:=s.heap.update p f,toks:=t }:=by
 have e:(s.heap.update p f).get? p = some { cls:=.type "list",data:=.seq its'.toArray n' }:=by
  rw [Heap.get?_update_self f ho (by rw [hf] <;> rfl),hf]
 refine I.write (x:=p) (e:=p) (by rw [h]; trivial) (.inl rfl) (fun b u hb q => (Heap.get?_update_other _ _ (Ne.symm hb)).trans q) ⟨_,e⟩ ?_
 exact ⟨hz,its',n',r,e⟩
noncomputable def rSetL:V → V → V → Hp → (Hp → Prop) → Prop:=fun o i v H Q => ∃ p xs k j,o = .ref p ∧ i = .int k ∧ H p = some (.lst xs) ∧ ixN xs.length k = some j ∧ Q (upd H p (.lst (xs.set j v)))
theorem set_list:PSet X rSetL:=by
 intro pins s σ H o i v ov iv u Q I ro ri rv h
 obtain ⟨p,xs,k,j,rfl,rfl,hp,hj,q⟩:=h
 cases ro
 obtain ⟨t,rfl⟩:=ri
 obtain ⟨its,n,r,ho,hz⟩:=I.lst hp
 obtain ⟨h1,h2,h3,h4⟩:=ixN_seq hj
 have hl:=r.length
 have hn:=line63
 have I':Inv X pins σ (upd H p (.lst (xs.set j v))) { s with heap:=s.heap.update p (Obj.mapSeq (·.setIfInBounds j u)) } :=
  I.lstUpd hp ho (mapSeq_set its n j u) (r.set rv j) (by rw [List.length_set]; exact hz) s.toks
 by_cases h0:0 ≤ k
 ·have hk:k.toNat = j:=by
   rw [seqIndex_of h0 h4] at h1
   exact Option.some.inj h1
  exact PySem.W.ki_setAt ho h0 (by lia) (by rw [List.size_toArray,← hl]; exact h4) (by rw [hk]; exact ⟨_,I',q⟩)
 ·have hk:(k + (its.toArray.size:Int)).toNat = j:=by
   rw [seqIndex_neg (by lia) h3] at h1
   rw [List.size_toArray,← hl]
   exact Option.some.inj h1
  exact PySem.W.ki_setBack ho (by lia) (by rw [List.size_toArray,← hl]; exact h3) (by lia) (by rw [hk]; exact ⟨_,I',q⟩)
theorem slice_bounds (lo hi:Option Int) (n:Nat):(sliceBounds lo hi none n).1 = ((HT.sIx n 0 lo:Nat):Int) ∧ (sliceBounds lo hi none n).2.1 = ((HT.sIx n n hi:Nat):Int) ∧ (sliceBounds lo hi none n).2.2 = 1:=by
 refine ⟨?_,?_,rfl⟩
 ·cases lo with
  | none => simp [sliceBounds,HT.sIx]
  | some i =>
   simp only [sliceBounds,HT.sIx,Option.getD_none,show (1:Int) > 0 by decide,if_true]
   by_cases h:i < 0
   ·simp only [h,if_true] <;> lia
   ·simp only [h,if_false] <;> lia
 ·cases hi with
  | none => simp [sliceBounds,HT.sIx]
  | some i =>
   simp only [sliceBounds,HT.sIx,Option.getD_none,show (1:Int) > 0 by decide,if_true]
   by_cases h:i < 0
   ·simp only [h,if_true] <;> lia
   ·simp only [h,if_false] <;> lia
theorem slicePick_cut (its:List Value) (lo hi:Option Int):slicePick its.toArray lo hi none = ((its.drop (HT.sIx its.length 0 lo)).take (HT.sIx its.length its.length hi - HT.sIx its.length 0 lo)).toArray:=by
 obtain ⟨h1,h2,h3⟩:=slice_bounds lo hi its.toArray.size
 unfold slicePick
 rw [h1,h2,h3]
 simp only [sliceRange_one,pick_run,List.size_toArray] <;> rfl
noncomputable def rSlL (K:PySem.W.Frag):V → Option Int → Option Int → Hp → VK → Prop:=fun x lo hi H Q => ∃ a xs,x = .ref a ∧ SqL K H a xs ∧ ∀ p,H p = none → Q (.ref p) (upd H p (.lst (cutV xs lo hi)))
theorem sl_list:SlR X (rSlL X.K):=by
 intro pins s σ H x v vl vu lo hi sl Q I rx hs pl pu h
 obtain ⟨a,xs,rfl,hx,q⟩:=h
 cases rx
 obtain ⟨its,r,ht,hz⟩:=I.list hx
 have hlen:=r.length
 refine ⟨"list",_,slot_list_getitem.lookup,ht.isList.typeIs,?_⟩
 refine wpAny_getItem_list_slice ht.isList hs pl pu .none (by simp) ?_ (by rw [List.size_toArray] <;> lia)
 rw [slicePick_cut,← hlen]
 refine ⟨.ref s.heap.objs.size,_,I.laid (t':=s.toks) (o:=.lst (cutV xs lo hi)) (fun b ob q => Heap.get?_push_of_some _ q) (Nat.le_refl _) ?_,rfl,q _ (I.hok.fresh (Nat.le_refl _))⟩
 exact ⟨Nat.le_trans (cutV_length xs lo hi) hz,_,0,(r.drop (HT.sIx xs.length 0 lo)).take (HT.sIx xs.length xs.length hi - HT.sIx xs.length 0 lo),Heap.get?_push_size _ rfl⟩
theorem call_len_seq:CallR X (.builtin "len") (fun xs H Q => ∃ p ys,xs = [.ref p] ∧ (SqL X.K H p ys ∨ SqT X.K H p ys) ∧ Q (.int ys.length) H):=by
 intro pins s σ H xs us Q I r h
 obtain ⟨p,ys,rfl,hq,q⟩:=h
 obtain ⟨u,rfl,rx⟩:=vals1 r
 cases rx
 have hn:=line63
 rcases hq with hq | hq
 ·obtain ⟨its,r',pl,hz⟩:=I.list hq
  have hlen:=r'.length
  exact Calls.call_len_list pl.isList (by simp only [List.size_toArray] <;> lia) ⟨.int ys.length,H,I.tok _,⟨s.toks + 1,by rw [List.size_toArray,hlen]⟩,q⟩
 ·obtain ⟨its,r',pl,hz⟩:=I.tuple hq
  have hlen:=r'.length
  exact len_tuple pl (by simp only [List.size_toArray] <;> lia) ⟨.int ys.length,H,I.tok _,⟨s.toks + 1,by rw [List.size_toArray,hlen]⟩,q⟩
theorem call_len_str:CallR X (.builtin "len") (fun xs H Q => ∃ z,xs = [.str z] ∧ z.length ≤ sizeLine ∧ Q (.int z.length) H):=by
 intro pins s σ H xs us Q I r h
 obtain ⟨z,rfl,hz,q⟩:=h
 obtain ⟨u,rfl,t,rfl⟩:=vals1 r
 have hn:=line63
 exact len_str (by lia) ⟨.int z.length,H,I.tok _,⟨_,rfl⟩,q⟩
theorem CallR.or {f:Value} {r r':List V → Hp → VK → Prop} (h:CallR X f r) (h':CallR X f r'):CallR X f (fun xs H Q => r xs H Q ∨ r' xs H Q):=by
 intro pins s σ H xs us Q I rs q
 rcases q with q | q
 ·exact h pins s σ H xs us Q I rs q
 ·exact h' pins s σ H xs us Q I rs q
theorem call_list_of:CallR X (.type "list") (fun xs H Q => ∃ p ys,xs = [.ref p] ∧ (SqL X.K H p ys ∨ SqT X.K H p ys) ∧ ∀ l,H l = none → Q (.ref l) (upd H l (.lst ys))):=by
 intro pins s σ H xs us Q I r h
 obtain ⟨p,ys,rfl,hq,q⟩:=h
 obtain ⟨u,rfl,rx⟩:=vals1 r
 cases rx
 have fin:∀ (its:List Value),Vals ys its → ys.length ≤ sizeLine → ∀ (h':Heap) (c':Nat),(∀ b o',s.heap.get? b = some o' → h'.get? b = some o') →
   h'.get? s.heap.objs.size = some { cls:=.type "list",dict:=none,data:=.seq its.toArray c',slots:=#[] } → EP X pins σ Q (.ref s.heap.objs.size) { s with heap:=h' }:=fun its r' hz h' c' kp e =>
  ⟨.ref s.heap.objs.size,_,I.laid (t':=s.toks) kp (Nat.le_refl _) (show ObjOk X.prog X.w _ h' _ (.lst ys) from ⟨hz,its,c',r',e⟩),rfl,q _ (I.hok.fresh (Nat.le_refl _))⟩
 rcases hq with hq | hq
 ·obtain ⟨its,r',pl,hz⟩:=I.list hq
  have hlen:=r'.length
  obtain ⟨o,ho,hc,n,hd⟩:=pl.isList
  exact call_list_seq p (.inl rfl) ho hc hd (fun h' c' kp e => fin its r' hz h' c' kp e) (by simp only [List.size_toArray] <;> lia)
 ·obtain ⟨its,r',pl,hz⟩:=I.tuple hq
  have hlen:=r'.length
  obtain ⟨o,ho,hc,n,hd⟩:=pl
  exact call_list_seq p (.inr rfl) ho hc hd (fun h' c' kp e => fin its r' hz h' c' kp e) (by simp only [List.size_toArray] <;> lia)
theorem call_tuple_of:CallR X (.type "tuple") (fun xs H Q => ∃ p ys,xs = [.ref p] ∧ ((SqL X.K H p ys ∧ ∀ l,H l = none → Q (.ref l) (upd H l (.tup ys))) ∨ (SqT X.K H p ys ∧ Q (.ref p) H))):=by
 intro pins s σ H xs us Q I r h
 obtain ⟨p,ys,rfl,h⟩:=h
 obtain ⟨u,rfl,rx⟩:=vals1 r
 cases rx
 rcases h with ⟨hq,q⟩ | ⟨hq,q⟩
 ·obtain ⟨its,r',pl,hz⟩:=I.list hq
  have hlen:=r'.length
  refine call_tuple_list pl.isList (fun h' kp => ?_) (by simp only [List.size_toArray] <;> lia)
  have I1:Inv X pins σ H { s with heap:=h' }:=I.kept (t':=s.toks) kp
  have I2:Inv X pins σ (upd H h'.objs.size (.tup ys)) { s with heap:=h'.push { cls:=.type "tuple",data:=.seq its.toArray } } :=
   I1.laid (t':=s.toks) (fun b o e => Heap.get?_push_of_some _ e) (Nat.le_refl _) (show ObjOk X.prog X.w _ _ _ (.tup ys) from ⟨hz,its,r',IsTup.new _ _⟩)
  exact ⟨.ref h'.objs.size,_,I2,rfl,q _ (I1.hok.fresh (Nat.le_refl _))⟩
 ·obtain ⟨its,r',pl,hz⟩:=I.tuple hq
  exact call_tuple_same pl ⟨.ref p,H,I,rfl,q⟩
noncomputable def tyV (K:PySem.W.Frag) (T:String) (x:V) (H:Hp):Prop:=match x with
 | .str _ => T = "str"
 | .int _ => T = "int"
 | .ref p => (T = "list" ∧ ∃ xs,SqL K H p xs) ∨ (T = "tuple" ∧ ∃ o,K.lookup p = some o ∧ o.cls = .type "tuple" ∧ o.dict = none) ∨
   (T = "dict" ∧ ((∃ kvs,H p = some (.dK kvs)) ∨ ∃ kvs,H p = some (.dT kvs))) ∨ (T = "set" ∧ ∃ S n,H p = some (.set S n))
 | _ => False
theorem tyV_is {pins:List (Addr × Obj)} {σ:St} {H:Hp} {s:Shared} {T:String} {x:V} {v:Value} (I:Inv X pins σ H s) (r:RelV x v) (ty:tyV X.K T x H) :
  s.TypeIs v T ∧ ∀ a,v = .ref a → ∃ ob,s.heap.get? a = some ob ∧ ob.dict = none:=by
 cases x with
 | str z =>
  obtain ⟨t,rfl⟩:=r
  cases (show T = "str" from ty)
  exact ⟨typeIs_str s z t,fun _ e => nomatch e⟩
 | int i =>
  obtain ⟨t,rfl⟩:=r
  cases (show T = "int" from ty)
  exact ⟨typeIs_int s i t,fun _ e => nomatch e⟩
 | ref p =>
  cases r
  rcases ty with ⟨rfl,xs,hq⟩ | ⟨rfl,o,hk,hc,hd⟩ | ⟨rfl,hk⟩ | ⟨rfl,S,n,hk⟩
  ·obtain ⟨its,_,pl,_⟩:=I.list hq
   refine ⟨pl.isList.typeIs,fun a e => ?_⟩
   cases e
   obtain ⟨o,n,e,c,hd,_⟩:=pl
   exact ⟨o,e,hd⟩
  ·refine ⟨⟨o,I.kIn p o hk,hc⟩,fun a e => ?_⟩
   cases e
   exact ⟨o,I.kIn _ o hk,hd⟩
  ·have z:∃ o,s.heap.get? p = some o ∧ o.ExactDict:=by
    rcases hk with ⟨kvs,hk⟩ | ⟨kvs,hk⟩
    ·obtain ⟨_,_,_,_,o,_,e,ex,_⟩:=I.hok p _ hk
     exact ⟨o,e,ex⟩
    ·obtain ⟨_,_,_,_,o,_,_,e,ex,_⟩:=I.hok p _ hk
     exact ⟨o,e,ex⟩
   obtain ⟨o,e,ex⟩:=z
   refine ⟨⟨o,e,ex.1⟩,fun a e2 => ?_⟩
   cases e2
   exact ⟨o,e,ex.2.1⟩
  ·obtain ⟨o,_,_,_,e,ex,_⟩:=I.hok p _ hk
   refine ⟨⟨o,e,ex.1⟩,fun a e2 => ?_⟩
   cases e2
   exact ⟨o,e,ex.2.1⟩
 | _ => exact False.elim ty
noncomputable def tBM (K:PySem.W.Frag) (T:String) (r:V → List V → Hp → VK → Prop) (to:TE) (t:TA):TE:=fun σ H Q => to σ H fun x H1 => tyV K T x H1 ∧ t σ H1 fun xs H2 => r x xs H2 Q
variable {o e:Expr} {es:List Expr} {to:TE} {t:TA} {name:Str} {apos cpos:Pos} {T id:String} {r:V → List V → Hp → VK → Prop}
theorem pe_bm (pa:PlainAttrs T) (slot:Slot T name id) (hty:typeOf (.builtin id) = pure (.type "method_descriptor")) (hm:MtR X id r) (ho:PE X o to) (ha:PA X (e :: es) t)
  (hbase:attributeBase o name X.env (eval o X.env) = eval o X.env:=by rfl)
  (hfew:((backTo cpos (starEach (e :: es) X.env)).all (fun x => !x.1) && (backToKw cpos (keywordEach [] X.env)).all (fun x => x.1.isSome)
   && decide ((e :: es).length + ([]:List Keyword).length + (if ([]:List Keyword).isEmpty then 0 else 1) < 30)) = true:=by rfl)
  (hline:(apos.endLine == cpos.line) = true:=by rfl) (hs:starEach (e :: es) X.env = (false,eval e X.env) :: starEach es X.env:=by rfl) (hplain:(backTo cpos (starEach es X.env)).any (·.1) = false:=by rfl) :
  PE X (.Call (.Attribute o name apos) (e :: es) [] cpos) (tBM X.K T r to t):=by
 intro pins s σ H Q I h
 refine wpAny_Call_method_late hbase hfew hline rfl (thn (ho pins s σ H _ I h) fun v s1 hX11_ => ?_)
 obtain ⟨x,H1,I1,r1,ty,q1⟩:=hX11_
 obtain ⟨h1,h2⟩:=tyV_is I1 r1 ty
 refine ⟨T,id,pa,slot,hty,h1,h2,?_⟩
 have hA:=ha cpos pins s1 σ H1 _ I1 q1
 rw [hs] at hA ⊢
 refine Calls.callWith_builtin (by show (false || (backTo cpos (starEach es X.env)).any (·.1)) = false; rw [hplain] <;> rfl) (Calls.evalArgs_plain ?_)
 exact thn hA fun us s2 ⟨vs,H2,I2,r2,q2⟩ => hm pins s2 σ H2 x vs v us Q I2 r1 r2 q2
/- xs.append(e),list.index on a module's tuple .. are MtR facts of 06m -/
end
end L2
namespace L2
open PySem PySem.Spec PyProof.Rows
noncomputable def MtM (X:Cx) (id:String) (r:V → List V → Hp → VK → Prop):Prop :=
 ∀ (pins:List (Addr × Obj)) (s:Shared) (σ:St) (H:Hp) (x:V) (xs:List V) (v:Value) (us:List Value) (Q:VK),Inv X pins σ H s → RelV x v → Vals xs us → r x xs H Q →
  wpAny (model X.prog X.w) X.A (call (.builtin id) (v :: us)) (EP X pins σ Q) X.xe s
theorem Vals.one:∀ {x:V} {us:List Value},Vals [x] us → ∃ u,us = [u] ∧ RelV x u
 | _,_,.cons r .nil => ⟨_,rfl,r⟩
theorem Vals.reverse {xs:List V} {us:List Value} (h:Vals xs us):Vals xs.reverse us.reverse:=by
 induction h with
 | nil => exact .nil
 | cons r t ih => rw [List.reverse_cons,List.reverse_cons]; exact Vals.append ih (.cons r .nil)
section
variable {X:Cx} {pins:List (Addr × Obj)} {σ:St} {H:Hp} {s:Shared} {l b:Addr} {xs ys zs:List V}
theorem Inv.lset {its its':List Value} {n:Nat} {f:Array Value → Array Value} {t':Nat} (I:Inv X pins σ H s) (hH:H l = some (.lst xs))
  (e:s.heap.get? l = some { cls:=.type "list",data:=.seq its.toArray n }) (hf:f its.toArray = its'.toArray) (hv:Vals ys its') (hz:ys.length ≤ sizeLine) :
  Inv X pins σ (upd H l (.lst ys)) { s with heap:=s.heap.update l (Obj.mapSeq f),toks:=t' }:=by
 have q:=PySem.IsL.update e f
 rw [hf] at q
 refine I.write (x:=l) (e:=l) (by rw [hH]; exact trivial) (.inl rfl) (fun b' u hb hu => (Heap.get?_update_other s.heap (Obj.mapSeq f) (Ne.symm hb)).trans hu) ⟨_,q⟩ ?_
 exact ⟨hz,its',_,hv,q⟩
theorem Inv.lnew {its:List Value} {t':Nat} (I:Inv X pins σ H s) (hv:Vals ys its) (hz:ys.length ≤ sizeLine) :
  Inv X pins σ (upd H s.heap.objs.size (.lst ys)) { s with heap:=s.heap.push { cls:=.type "list",data:=.seq its.toArray },toks:=t' } :=
 I.laid (fun _ _ q => Heap.get?_push_of_some _ q) (Nat.le_refl _) ⟨hz,its,0,hv,Heap.get?_push_size _ rfl⟩
theorem Inv.fresh (I:Inv X pins σ H s):H s.heap.objs.size = none:=I.hok.fresh (Nat.le_refl _)
theorem Inv.lstM (I:Inv X pins σ H s) (hH:H l = some (.lst xs)):xs.length ≤ sizeLine ∧ ∃ (its:List Value) (n:Nat),Vals xs its ∧ xs.length = its.length ∧ s.heap.get? l = some { cls:=.type "list",data:=.seq its.toArray n }:=by
 obtain ⟨z,its,n,r,e⟩:=I.hok l _ hH
 exact ⟨z,its,n,r,r.length,e⟩
end
section
variable {X:Cx}
noncomputable def rAppend:V → List V → Hp → VK → Prop:=fun x vs H Q => ∃ l xs y,x = .ref l ∧ vs = [y] ∧ H l = some (.lst xs) ∧ xs.length < sizeLine ∧ Q .non (upd H l (.lst (xs ++ [y])))
theorem mt_append:MtM X "list.append" rAppend:=by
 intro pins s σ H x vs v us Q I rx rv h
 obtain ⟨l,xs,y,rfl,rfl,hH,hz,q⟩:=h
 cases rx
 obtain ⟨u,rfl,ru⟩:=rv.one
 obtain ⟨z,its,n,r,hl,e⟩:=I.lstM hH
 refine call_meets F.slot_list_append ⟨_,e,rfl⟩ F.entry_list_append (F.args_list_append_2 _ _) (PySem.list_append l its.toArray n u (by rw [List.size_toArray]; lia)) ⟨e,?_⟩
 refine ⟨.non,_,I.lset (its':=its ++ [u]) hH e (by simp) (r.append (.cons ru .nil)) ?_,rfl,q⟩
 rw [List.length_append,List.length_singleton]
 lia
end
end L2
namespace L2
open PySem PySem.Spec PyProof.Rows
section
variable {κ:Type} [DecidableEq κ]
noncomputable def valV (kvs:List (κ × V)) (k:κ):Option V:=(kvs.find? fun kv => decide (kv.1 = k)).map (·.2)
noncomputable def putK (kvs:List (κ × V)) (k:κ) (v:V):List (κ × V) :=
 if (kvs.any fun kv => decide (kv.1 = k)) = true then kvs.map (fun kv => if kv.1 = k then (kv.1,v) else kv) else kvs ++ [(k,v)]
theorem RelO.getD {o:Option V} {u:Option Value} {d:V} {d':Value} (r:RelO o u) (rd:RelV d d'):RelV (o.getD d) (u.getD d'):=by
 cases o with
 | none => cases u with
  | none => exact rd
  | some _ => exact (show False from r).elim
 | some _ => cases u with
  | none => exact (show False from r).elim
  | some _ => exact r
theorem KV.length {kvs:List (κ × V)} {vs:List (κ × Value)} (r:KV kvs vs):kvs.length = vs.length:=Paired.length r
end
noncomputable abbrev KT (H:Hp):List (List Key × V) → List (List Key × Addr × Value) → Prop:=Paired fun p q => p.1 = q.1 ∧ H q.2.1 = some (.tup (p.1.map kV)) ∧ RelV p.2 q.2.2
theorem KT.keeps {H H':Hp} {kvs:List (List Key × V)} {xs:List (List Key × Addr × Value)} (r:KT H kvs xs) (ht:∀ b ys,H b = some (.tup ys) → H' b = some (.tup ys)):KT H' kvs xs :=
 Paired.mapP r fun _ _ z => ⟨z.1,ht _ _ z.2.1,z.2.2⟩
section
variable {P:Program} {w:World} {H:Hp} {h:Heap} {a:Addr}
theorem rd_of {u:HO} (ok:HOk P w H h) (e:Rd H a u):ObjOk P w H h a u:=e.ok ok
theorem dk_rd {kvs:List (Key × V)} (ok:HOk P w H h) (e:Rd H a (.dK kvs)):kvs.length ≤ sizeLine ∧ (a == sysModules) = false ∧ ∃ vs,KV kvs vs ∧ h.DictOf (mixKind P w) a vs :=
 let ⟨z,y,vs,r,d⟩:=(show ObjOk P w H h a (.dK kvs) from rd_of ok e); ⟨z,y,vs,r,d.dictOf⟩
end
noncomputable def DGet (H:Hp) (a:Addr) (y:V) (r:Option V):Prop :=
 (∃ kvs k,Rd H a (.dK kvs) ∧ y = kV k ∧ r = valV kvs k) ∨ ∃ kvs k b,Rd H a (.dT kvs) ∧ y = .ref b ∧ H b = some (.tup (k.map kV)) ∧ r = valV kvs k
noncomputable def DPut (H:Hp) (a:Addr) (y v:V) (H':Hp):Prop :=
 (∃ kvs k,H a = some (.dK kvs) ∧ y = kV k ∧ kvs.length < sizeLine ∧ H' = upd H a (.dK (putK kvs k v))) ∨
 ∃ kvs k b,H a = some (.dT kvs) ∧ y = .ref b ∧ H b = some (.tup (k.map kV)) ∧ kvs.length < sizeLine ∧ H' = upd H a (.dT (putK kvs k v))
theorem DGet.t {H:Hp} {a b:Addr} {kvs:List (List Key × V)} {k:List Key} (e:H a = some (.dT kvs)) (eb:H b = some (.tup (k.map kV))):DGet H a (.ref b) (valV kvs k):=.inr ⟨kvs,k,b,.inl e,rfl,eb,rfl⟩
theorem DPut.t {H:Hp} {a b:Addr} {kvs:List (List Key × V)} {k:List Key} {v:V} (e:H a = some (.dT kvs)) (eb:H b = some (.tup (k.map kV))) (hl:kvs.length < sizeLine) :
  DPut H a (.ref b) v (upd H a (.dT (putK kvs k v))):=.inr ⟨kvs,k,b,e,rfl,eb,hl,rfl⟩
section
variable {X:Cx} {pins:List (Addr × Obj)} {σ:St} {H:Hp} {s:Shared} {a:Addr} {kvs:List (Key × V)} {k:Key} {u:Value} {A:Around} {E:Value → Shared → Prop}
theorem d_len {Q:Value → Shared → Prop} (I:Inv X pins σ H s) (e:Rd H a (.dK kvs)) (h:∀ t s',Inv X pins σ H s' → Q (.int kvs.length t) s'):wpAny (model X.prog X.w) A (call (.builtin "len") [.ref a]) Q E s:=by
 obtain ⟨z,hd,vs,rel,dd⟩:=dk_rd I.hok e
 refine call_len_dict hd dd (by rw [← rel.length]; rw [sizeLine_eq] at z; lia) ?_
 rw [← rel.length]
 exact h _ _ (I.tok _)
end
end L2
namespace Att
open PySem PySem.W PySem.Calls PyProof.Rows
theorem ints_of_wellAll {P:Params} {h:Heap}:∀ (ns:List Int) (vs:List Value),WellAll P h vs (ns.map WData.int) → IntsAre vs ns:=by
 intro ns
 induction ns with
 | nil =>
  intro vs w
  rw [List.map_nil] at w
  cases w
  exact .nil
 | cons n ns ih =>
  intro vs w
  rw [List.map_cons] at w
  cases w with
  | cons a b =>
   cases a
   exact .cons _ _ (ih _ b)
theorem script_of {l:OpenLaw} {n:Nat} (hn:l.most = some n) {P:Params} {h:Heap} {args:List WData} {vals:List Value}
  (hpre:l.row.toRowW.claim.pre args = true) (hwl:WellAll P h vals args) :
  ∃ a vs ns,vals = [Value.ref a] ∧ args = [WData.list (ns.map WData.int)] ∧ h.get? a = some { cls:=.type "list",data:=.seq vs.toArray } ∧ IntsAre vs ns ∧ ns.length ≤ n:=by
 have hsh:WShape.hasAll [] args [.list .int] = true:=(pre_splitW hpre).1
 have hc:l.pre.holds [] { args:=args } = true:=(pre_splitW hpre).2
 obtain ⟨d,r,rfl,h1,h2⟩:=hasAllW_cons hsh
 obtain rfl:=hasAllW_nil h2
 obtain ⟨xs,rfl,h3⟩:=hasW_list h1
 obtain ⟨ns,rfl⟩:=items_int h3
 have hlen:ns.length ≤ n:=by
  unfold OpenLaw.pre at hc
  have h4:(WTm.not (.lt (.lit (.int (n:Int))) (.len (.arg 0)))).holds [] { args:=[.list (ns.map .int)] } = true:=by
   have h4:=(holds_andW hc).1
   rw [hn] at h4
   exact h4
  have h5:=condW_of h4 (w_not (w_lt w_lit (w_len_list (w_arg rfl))))
  rw [List.length_map] at h5
  refine Nat.le_of_not_lt fun q => ?_
  have q':(n:Int) < ((ns.length:Nat):Int):=by lia
  first
   | (rw [decide_eq_true q'] at h5; exact absurd h5 (by decide))
   | (simp at h5; lia)
 cases hwl with
 | cons w1 w2 =>
  cases w2
  cases w1 with
  | list ho hall => exact ⟨_,_,ns,rfl,rfl,ho,ints_of_wellAll ns _ hall,hlen⟩
theorem post_true (l:OpenLaw) (args:List WData):l.row.toRowW.claim.post args (.bool true) args = true :=
 postW_of (r:=l.row.toRowW) (X:=(true == true))
  (show WShape.has [] (.bool true) .bool = true by first | rfl | decide | simp [WShape.has,WShape.arms,WShape.armsAll])
  (show (WTm.eq .res (.lit (.bool true))).value [] { args:=args,res:=some (.bool true),after:=args } = some (.bool (true == true)) from w_eq_bool (w_res rfl) w_lit) rfl
theorem attach_call {l:OpenLaw} {n:Nat} {q:Program} {loose:List Str} {XP:(Str → Option Value) → Heap → Prop} {YP:World → Heap → Prop} {d:DefRec}
  (hn:l.most = some n) (hdf:d.params.defaults = [])
  (call:∀ (w:World) (s₀ s₁:Shared) (mg mb:Str → Option Value) (fa:Addr) (o:Obj) (pm cd doc:Value) (a:Addr) (vs:List Value) (ns:List Int),
   Ground q loose [] XP w s₀ mg mb s₁.heap → YP w s₁.heap →
   s₁.heap.get? fa = some o → o.data = .func (docDef d.name d.params d.body d.scope pm cd doc) → s₁.heap.CodeRec cd d.name → mg d.name = some (.ref fa) →
   s₁.heap.get? a = some { cls:=.type "list",data:=.seq vs.toArray } → IntsAre vs ns → ns.length ≤ n → s₁.gens = #[] →
   codeAny (model l.prog w) callerA (.call (.ref fa) ⟨[.ref a],[]⟩) (fun r s' => r = .ok (.ret (.bool true)) ∧ OldK s₁.heap s'.heap ∧ s'.os = s₁.os ∧ AllBare s'.gens) s₁) :
  WalkO q loose XP YP l.row.toRowW d [] (fun f vs => PySem.call f vs):=by
 intro w s₀ s₁ mg mb G Y fa o pm cd doc dV kV ho hd hcd hD hmg hg args vals as hpre hlay hrd hwl hlo
 obtain rfl:dV = .none:=Dflts.none hD hdf
 obtain rfl:kV = .none:=Dflts.noKw hD
 obtain ⟨a,vs,ns,rfl,rfl,hobj,hints,hlen⟩:=script_of hn hpre hwl
 refine enter_call (codeAny_mono (call w s₀ s₁ mg mb fa o pm cd doc a vs ns G Y ho (fd_plain hd) hcd hmg hobj hints hlen hg) fun r s' hq => ?_)
 obtain ⟨rfl,h2,h3,h4⟩:=hq
 exact ⟨.inl ⟨.bool true,.bool true,[],rfl,fun _ => rfl,.bool true,post_true l _,fun _ => ⟨List.Pairwise.nil,fun _ hm => (nomatch hm)⟩⟩,h2,h3,h4⟩
end Att
namespace L2
open PySem PySem.Spec PyProof.Rows
theorem vals_ints:∀ {vs:List Value} {ns:List Int},IntsAre vs ns → Vals (ns.map V.int) vs
 | _,_,.nil => .nil
 | _,_,.cons n t h => .cons ⟨t,rfl⟩ (vals_ints h)
noncomputable def Only (H:Hp):Prop:=∀ b,H b = none ∨ ∃ o xs,H b = some (.frz o (.lst xs))
theorem law_call {P:Program} {w:World} {K:PySem.W.Frag} {mg mb:Str → Option Value} {CX:CXT} {k:Nat} {fa a:Addr} {fd:FuncData} {x:Str} {sp:Sp} {s₁:Shared} {vs:List Value} {ns:List Int}
  (KX:K.In s₁.heap) (hns:s₁.heap.Ns mainGlobals mg) (hb:s₁.heap.Ns builtinsNs mb) (hbb:∀ x:Str,x ≠ "__name__" → mb x = bootBuiltins x) (hlim:s₁.heap.NoLimit) (hg:s₁.gens = #[])
  (ha:s₁.heap.get? a = some { cls:=.type "list",data:=.seq vs.toArray }) (hi:IntsAre vs ns) (hl:ns.length ≤ sizeLine) (hr:Room k callerA)
  (F:∀ base:Heap,K.In base → base.Ns mainGlobals mg → FnOk P w K mg base CX k fa fd [x] sp) (hbind:∀ (s:Shared) (u:Value),BindsTo s fd ⟨[u],[]⟩ [(x,u)])
  (hsp:∀ H:Hp,Only H → SqL K H a (ns.map V.int) → sp [.ref a] H (fun v _ => v = .bl true) fun _ _ _ => False)
  (hCX:∀ H e s',CX [] H s₁ (fun _ _ _ => False) e s' → False) :
  codeAny (model P w) callerA (.call (.ref fa) ⟨[.ref a],[]⟩) (fun r s' => r = .ok (.ret (.bool true)) ∧ OldK s₁.heap s'.heap ∧ s'.os = s₁.os ∧ AllBare s'.gens) s₁:=by
 have rv:=vals_ints hi
 have lenV:=hi.length
 have core:∀ H:Hp,Only H → SqL K H a (ns.map V.int) → HOk P w H s₁.heap → (∀ b,H b ≠ none → b = a) → (H a ≠ none → K.lookup a = none) →
   codeAny (model P w) callerA (.call (.ref fa) ⟨[.ref a],[]⟩) (fun r s' => r = .ok (.ret (.bool true)) ∧ OldK s₁.heap s'.heap ∧ s'.os = s₁.os ∧ AllBare s'.gens) s₁:=by
  intro H hO hS hok hA hK
  have base_of:∀ {b:Addr} {o:Obj},s₁.heap.get? b = some o → H b = none → (hidT s₁.heap H).get? b = some o:=fun e n => hidT_get e n
  have noA:∀ {b:Addr} {o:Obj} {es:Array DictEntry} {ep:Nat},s₁.heap.get? b = some o → o.data = .dict es ep → H b = none:=fun {b o es ep} e d => by
   cases q:H b with
   | none => rfl
   | some u =>
    have e':b = a:=hA b (by rw [q]; simp)
    subst e'
    rw [ha] at e; cases e
    have d':Data.seq vs.toArray _ = Data.dict es ep:=d
    cases d'
  have nsK:∀ {b:Addr} {m:Str → Option Value},s₁.heap.Ns b m → (hidT s₁.heap H).Ns b m:=fun {b m} ⟨o,es,ep,e,d,r⟩ => ⟨o,es,ep,base_of e (noA e d),d,r⟩
  have hKb:K.In (hidT s₁.heap H):=fun b o e => base_of (KX b o e) (by
   cases q:H b with
   | none => rfl
   | some u =>
    have e':b = a:=hA b (by rw [q]; simp)
    subst e'
    rw [hK (by rw [q]; simp)] at e; cases e)
  have hM:Mod K mg (hidT s₁.heap H):=⟨hKb,nsK hns,⟨mb,nsK hb,hbb⟩,let ⟨mc,h1,h2⟩:=hlim; ⟨mc,nsK h1,h2⟩⟩
  have e0:Env0 P w K mg (hidT s₁.heap H) callerA [] s₁ H:=⟨rfl,hM,fun b o e => of_hidT e,Nat.le_of_eq (hidT_size _ _),trivial,fun b hb => absurd (show b ∈ ([]:List Addr) from hb) (by simp),hok,.of_eq hg⟩
  refine codeAny_mono ((F _ hKb (nsK hns)).run callerA [] s₁ H ⟨[.ref a],[]⟩ [.ref a] [.ref a] _ _ hr e0 (hbind s₁ (.ref a)) (.cons rfl .nil) (hsp H hO hS)) fun r s' h => ?_
  cases r with
  | error e => exact (hCX H e s' h).elim
  | ok fl =>
   cases fl with
   | next => exact False.elim h
   | brk => exact False.elim h
   | cont => exact False.elim h
   | ret u =>
    obtain ⟨v,H',os,bare,un,hok',r',q⟩:=h
    have q':v = .bl true:=q
    subst q'
    obtain rfl:u = Value.bool true:=r'
    refine ⟨rfl,OldK.of_keep fun b o e => ?_,os,bare⟩
    cases q:H b with
    | none => exact un.keep b o e q (by intro z; exact absurd (show b ∈ ([]:List Addr) from z) (by simp)) (by simp)
    | some u =>
     rcases hO b with z | ⟨ob,xs,z⟩
     ·rw [q] at z; cases z
     ·have z2:=un.frzs b ob _ z
      obtain ⟨e1,_⟩:=hok b _ z
      obtain ⟨e2,_⟩:=hok' b _ z2
      rw [e] at e1; cases e1
      exact e2
 cases hk:K.lookup a with
 | some o =>
  have e:=KX a o hk
  rw [ha] at e
  cases e
  refine core (fun _ => none) (fun _ => .inl rfl) (.inr ⟨_,vs.toArray,_,hk,rfl,rfl,rfl,by rw [List.size_toArray,lenV]; exact hl,by simpa using rv⟩) (fun b u z => by have z':(none:Option HO) = some u:=z; cases z') (fun b z => absurd rfl z) fun z => absurd rfl z
 | none =>
  refine core (fun b => if b = a then some (.frz { cls:=.type "list",data:=.seq vs.toArray } (.lst (ns.map V.int))) else none) (fun b => ?_) (.inl (.inr ⟨{ cls:=.type "list",data:=.seq vs.toArray },if_pos rfl⟩)) (fun b u z => ?_) (fun b z => ?_) fun _ => hk
  ·by_cases hb:b = a
   ·exact .inr ⟨_,_,if_pos hb⟩
   ·exact .inl (if_neg hb)
  ·by_cases hb:b = a
   ·have z':=(if_pos hb).symm.trans z
    cases z'
    subst hb
    exact ⟨ha,by rw [List.length_map]; exact hl,vs,_,rv,ha⟩
   ·have z':=(if_neg hb).symm.trans z
    cases z'
  ·by_cases hb:b = a
   ·exact hb
   ·exact absurd (if_neg hb) z
end L2
namespace L2
open PySem PySem.Spec PyProof.Rows
theorem walk_of {l:PySem.W.OpenLaw} {n k:Nat} {q:Program} {loose:List Str} {XP:(Str → Option Value) → Heap → Prop} {YP:World → Heap → Prop} {d:DefRec} {K:Params → PySem.W.Frag} {CX:World → CXT} {sp:World → Sp} {x:Str}
  (hn:l.most = some n) (hn2:n ≤ sizeLine) (hdf:d.params.defaults = []) (hr:Room k callerA)
  (hY:∀ (w:World) (h:Heap),YP w h → (K w.params).In h)
  (F:∀ (w:World) (mg:Str → Option Value) (fa:Addr) (h:Heap),(K w.params).In h → h.Ns mainGlobals mg → mg d.name = some (.ref fa) →
   ∃ fd:FuncData,(∀ (s:Shared) (u:Value),BindsTo s fd ⟨[u],[]⟩ [(x,u)]) ∧
    ∀ base:Heap,(K w.params).In base → base.Ns mainGlobals mg → FnOk l.prog w (K w.params) mg base (CX w) k fa fd [x] (sp w))
  (hsp:∀ (w:World) (H:Hp) (a:Addr) (ns:List Int),ns.length ≤ n → Only H → SqL (K w.params) H a (ns.map V.int) → sp w [.ref a] H (fun v _ => v = .bl true) fun _ _ _ => False)
  (hCX:∀ (w:World) (H:Hp) (s:Shared) (e:Value) (s':Shared),CX w [] H s (fun _ _ _ => False) e s' → False) :
  PySem.W.WalkO q loose XP YP l.row.toRowW d [] (fun f vs => PySem.call f vs):=by
 refine Att.attach_call hn hdf fun w s₀ s₁ mg mb fa o pm cd doc a vs ns G Y ho hd hcd hmg hobj hints hlen hg => ?_
 have KX:=hY w _ Y
 obtain ⟨fd,hb,hF⟩:=F w mg fa _ KX G.T.g hmg
 exact law_call KX G.T.g G.T.b G.T.builtins G.T.nolimit hg hobj hints (Nat.le_trans hlen hn2) hr hF hb (fun H hO hS => hsp w H a ns hlen hO hS) fun H e s' => hCX w H s₁ e s'
end L2
/- THE LAST THEOREM (shape; LID,My.* are yours):
  My.Adr: a structure of the addresses that your layer names (classes,functions); My.Txt K t: a structure (Prop) of the equations over K;
  My.txt_mk:{K} {implicit addresses ..} (e1:nsIn K mainGlobals "law" = some (some (.ref f))) (e2:K.lookup f = some ⟨oc,od,.func (fnOf "law" "law" params body scope dV kV doc pm an cdv ct),sl⟩) (e3:codeIn K cdv "law" = true) ..:∃ t,My.Txt K t
(the tactic k_is has no namespace: write k_is) -/
namespace L2
open PySem PySem.Spec PyProof.Rows
noncomputable def defArgs (s:Stmt):Arguments:=match s with
 | .FunctionDef _ a _ _ _ _ _ _ _ _ => a
 | _ => { posonlyargs:=[],args:=[],vararg:=none,kwonlyargs:=[],kw_defaults:=[],kwarg:=none,defaults:=[] }
noncomputable def defBody (s:Stmt):List Stmt:=match s with
 | .FunctionDef _ _ b _ _ _ _ _ _ _ => b
 | _ => []
noncomputable def defScope (s:Stmt):Scope:=match s with
 | .FunctionDef _ _ _ _ _ _ sc _ _ _ => sc
 | _ => { kind:=.function,names:=[],isGenerator:=false,isCoroutine:=false }
noncomputable abbrev CX0:CXT:=fun _ _ _ _ _ _ => False
noncomputable abbrev E0:XK:=fun _ _ _ => False
theorem pass0 {X:Cx}:Passes CX0 X E0:=fun _ _ _ _ _ _ _ h => h.elim
structure Fun (K:PySem.W.Frag) (x qual:Str) (st:Stmt) (f:Addr) (fd:FuncData):Prop where
 ex:∃ (oc:Value) (od:Option Addr) (kV doc pm:Value) (an:Option Addr) (cdv ct:Value) (osl:Array (Option Value)),
  fd = PySem.W.fnOf x qual (defArgs st) (defBody st) (defScope st) .none kV doc pm an cdv ct ∧ K.lookup f = some ⟨oc,od,.func fd,osl⟩ ∧ PySem.W.codeIn K cdv qual = true
 kp:PySem.W.keepIn K (.ref f) = true
section
variable {P:Program} {w:World} {K:PySem.W.Frag} {mg:Str → Option Value} {base:Heap}
theorem Fun.ok {x qual:Str} {st:Stmt} {f:Addr} {fd:FuncData} {N ps:List Str} {k:Nat} {sp:Sp} (F:Fun K x qual st f fd) (S:FnScope N ps (defScope st)) (len:∀ vs H Q E,sp vs H Q E → vs.length = ps.length)
  (hbody:∀ (cdv:Value) (A:Around) (outer:List Env) (s:Shared) (H:Hp) (vs:List V) (Q:VK) (E:XK),Room k (A.deeper (envOfC qual (defScope st) s.heap.objs.size f cdv)) → sp vs H Q E →
   ∃ t,PSs (cxOf CX0 P w K mg base N qual (defScope st) f cdv A outer s H E).nox (defBody st) t ∧ t { nx:=fun _ H' => Q .non H',rt:=Q } (start N vs) H):FnOk P w K mg base CX0 (k + 1) f fd ps sp:=by
 obtain ⟨oc,od,kV,doc,pm,an,cdv,ct,osl,rfl,lk,hcd⟩:=F.ex
 refine fn_of lk hcd S len fun A outer s H vs Q E hr hsp => ?_
 obtain ⟨t,h,q⟩:=hbody cdv A outer s H vs Q E hr hsp
 exact ⟨t,h.nox,q⟩
theorem Fun.binds {x qual:Str} {st:Stmt} {f:Addr} {fd:FuncData} {ps:List Str} (F:Fun K x qual st f fd)
  (h:∀ (kV doc pm:Value) (an:Option Addr) (cdv ct:Value) (us:List Value),us.length = ps.length → bindArgs (PySem.W.fnOf x qual (defArgs st) (defBody st) (defScope st) .none kV doc pm an cdv ct) ⟨us,[]⟩ = pure (ps.zip us)):Binds K fd ps []:=by
 obtain ⟨oc,od,kV,doc,pm,an,cdv,ct,osl,rfl,lk,hcd⟩:=F.ex
 exact .all (h kV doc pm an cdv ct)
theorem fun_mk {x qual:Str} {st:Stmt} {f:Addr} {oc:Value} {od an:Option Addr} {osl:Array (Option Value)} {kV doc pm cdv ct:Value} (l:K.lookup f = some ⟨oc,od,.func (PySem.W.fnOf x qual (defArgs st) (defBody st) (defScope st) .none kV doc pm an cdv ct),osl⟩)
  (c:PySem.W.codeIn K cdv qual = true) (k:PySem.W.keepIn K (.ref f) = true):Fun K x qual st f (PySem.W.fnOf x qual (defArgs st) (defBody st) (defScope st) .none kV doc pm an cdv ct):=⟨⟨oc,od,kV,doc,pm,an,cdv,ct,osl,rfl,l,c⟩,k⟩
end
theorem small1000 {n:Nat} (h:n ≤ 1000):n < sizeLine:=Nat.lt_of_le_of_lt h (by decide)
noncomputable def Same (H H':Hp):Prop:=∀ b o,H b = some o → H' b = some o
theorem Same.refl (H:Hp):Same H H:=fun _ _ h => h
theorem Same.trans {H H1 H2:Hp} (a:Same H H1) (b:Same H1 H2):Same H H2:=fun c o h => b c o (a c o h)
theorem Same.free {H H':Hp} (e:Same H H') {l:Addr} (h:H' l = Option.none):H l = Option.none:=by
 cases q:H l with
 | none => rfl
 | some o =>
  rw [e l o q] at h
  cases h
theorem Same.seq {K:PySem.W.Frag} {H H':Hp} {a:Addr} {xs:List V} (e:Same H H') (h:SqL K H a xs):SqL K H' a xs:=by
 rcases h with (h | ⟨o,h⟩) | h
 ·exact .inl (.inl (e _ _ h))
 ·exact .inl (.inr ⟨o,e _ _ h⟩)
 ·exact .inr h
section
variable {X:Cx}
theorem call_lenD:CallR X (.builtin "len") (fun xs H Q => ∃ a kvs,xs = [V.ref a] ∧ H a = some (.dK kvs) ∧ Q (.int kvs.length) H):=by
 intro pins s σ H xs us Q I r h
 obtain ⟨a,kvs,rfl,ha,q⟩:=h
 obtain ⟨u,rfl,ru⟩:=vals1 r
 cases ru
 exact d_len I (.inl ha) fun t s' I' => ⟨.int kvs.length,H,I',⟨t,rfl⟩,q⟩
end
end L2
namespace L2
open PySem PySem.Spec PyProof.Rows
theorem ObjOk.there {P:Program} {w:World} {H:Hp} {h:Heap} {a:Addr} {o:HO} (x:ObjOk P w H h a o):∃ ob,h.get? a = some ob:=by
 cases o with
 | lst xs => obtain ⟨_,_,_,_,e⟩:=x; exact ⟨_,e⟩
 | tup xs => obtain ⟨_,_,_,p⟩:=x; obtain ⟨_,e,_⟩:=p; exact ⟨_,e⟩
 | dK kvs => obtain ⟨_,_,_,_,o,_,e,_⟩:=x; exact ⟨_,e⟩
 | dT kvs => obtain ⟨_,_,_,_,o,_,_,e,_⟩:=x; exact ⟨_,e⟩
 | set S n => obtain ⟨o,_,_,_,e,_⟩:=x; exact ⟨_,e⟩
 | ins C dx fs => obtain ⟨_,_,_,e,_⟩:=x; exact ⟨_,e⟩
 | own y => obtain ⟨_,e⟩:=x; exact ⟨_,e⟩
 | xd fs => obtain ⟨_,⟨_,_,_,e,_⟩,_⟩:=x; exact ⟨_,e⟩
 | rng lo hi => obtain ⟨_,_,_,e⟩:=x; exact ⟨_,e⟩
 | frz ob u => obtain ⟨e,_⟩:=x; exact ⟨_,e⟩
 | tbl ps => exact ⟨_,show h.get? a = some _ from x⟩
 | met f y => exact ⟨_,show h.get? a = some _ from x⟩
 | ext φ => obtain ⟨_,⟨_,e⟩,_⟩:=x; exact ⟨_,e⟩
noncomputable def CX1 (P:Program) (w:World):CXT:=fun outer H s E ev s' => ∃ (e t C:Addr) (H':Hp) (B:Heap),ev = .ref e ∧ s'.os = s.os ∧ AllBare s'.gens ∧ Un (frs outer) [] H H' s.heap s'.heap ∧ HOk P w H' s'.heap ∧ E (.ref C) none H' ∧
 Heap.FlyingW B outer e (.ref C) (.ref t) s'.heap ∧ (∀ b o,s.heap.get? b = some o → b ∉ frs outer → ∃ o',B.get? b = some o') ∧ ∀ b o,H' b = some o → ∃ o',B.get? b = some o'
theorem raise_xe {P:Program} {w:World} {K:PySem.W.Frag} {mg:Str → Option Value} {base:Heap} {N:List Str} {qual:Str} {scope:Scope} {f:Addr} {cd:Value} {A:Around} {outer:List Env} {s:Shared} {H:Hp} {E:XK}
  {pins:List (Addr × Obj)} {σ:L2.St} {H2:Hp} {s2:Shared} {h':Heap} {e C:Addr} {vs:List Value}
  (I:Inv (cxOf (CX1 P w) P w K mg base N qual scope f cd A outer s H E) pins σ H2 s2) (hx:Heap.MadeExcOf s2.heap h' e (.ref C) vs) (hE:E (.ref C) none H2) :
  (cxOf (CX1 P w) P w K mg base N qual scope f cd A outer s H E).xe (.ref e) { s2 with heap:=h' }:=by
 have hin:∀ env ∈ (envOfC qual scope s.heap.objs.size f cd :: outer),∀ b,env.frame = some b → b ∈ frs (envOfC qual scope s.heap.objs.size f cd :: outer):=fun env he b hb => List.mem_filterMap.mpr ⟨env,he,hb⟩
 have hst:=I.stack
 have hnf:∀ b,b ∈ frs (envOfC qual scope s.heap.objs.size f cd :: outer) → H2 b = none:=I.stkFree
 show wpAny _ _ (leaving _ (.ref e)) _ _ _
 refine wpAny_leaves_madeW (base:=PySem.W.hideAll s2.heap (frs (envOfC qual scope s.heap.objs.size f cd :: outer))) (h:=s2.heap) I.ok.frames rfl (fun b o q => PySem.W.of_hideAll _ q) (PySem.W.funFrames_hide hst hin) hx fun h'' t fl tup bt up => ?_
 have keep:∀ b o,s2.heap.get? b = some o → b ∉ frs (envOfC qual scope s.heap.objs.size f cd :: outer) → h''.get? b = some o:=fun b o q nf => fl.1 b o (PySem.W.hideAll_get _ q nf)
 have slot:∀ b o,s2.heap.get? b = some o → b ∈ frs (envOfC qual scope s.heap.objs.size f cd :: outer) → ∃ sl,h''.get? b = some { o with slots:=sl }:=fun b o q hb => by
  obtain ⟨_,o',ho',hnr⟩:=hst.mem hb
  rw [q] at ho'
  cases ho'
  exact up b o (hx.keeps b o q) hnr
 have nl:∀ b o,s.heap.get? b = some o → b ∉ frs outer → b ∉ frs (envOfC qual scope s.heap.objs.size f cd :: outer):=fun b o q nb hb => by
  rcases List.mem_cons.mp (show b ∈ s.heap.objs.size :: frs outer from hb) with z | z
  ·exact absurd (Heap.lt_size q) (by rw [z]; exact Nat.lt_irrefl _)
  ·exact nb z
 have U:=I.base
 refine ⟨e,t,C,H2,_,rfl,I.os,I.bare,⟨fun b o q n nb _ => ?_,fun b o q n hb _ => ?_,fun b o q n _ => U.free b o q n (fun z => nomatch z),fun b o q _ => ?_,U.tups,U.frzs,U.tbls⟩,fun a o q => ?_,hE,fl,fun b o q nb => ?_,fun b o q => ?_⟩
 ·exact keep b o (U.keep b o q n nb (fun z => nomatch z)) (nl b o q nb)
 ·obtain ⟨sl,e1⟩:=U.slot b o q n hb (fun z => nomatch z)
  obtain ⟨sl2,e2⟩:=slot b _ e1 (List.mem_cons_of_mem _ hb)
  exact ⟨sl2,e2⟩
 ·obtain ⟨o',e1⟩:=U.there b o q (fun z => nomatch z)
  by_cases hb:b ∈ frs (envOfC qual scope s.heap.objs.size f cd :: outer)
  ·obtain ⟨sl,e2⟩:=slot b o' e1 hb
   exact ⟨_,e2⟩
  ·exact ⟨o',keep b o' e1 hb⟩
 ·refine (I.hok a o q).stay (fun c v hc r => keep c v r fun hb => ?_) (fun _ r => r) fun _ _ r => r
  have:=hnf c hb
  rcases hc with rfl | hc
  ·rw [this] at q; cases q
  ·rw [this] at hc; cases hc
 ·obtain ⟨o',e1⟩:=U.there b o q (fun z => nomatch z)
  exact ⟨o',PySem.W.hideAll_get _ e1 (nl b o q nb)⟩
 ·obtain ⟨o',e1⟩:=ObjOk.there (I.hok b o q)
  exact ⟨o',PySem.W.hideAll_get _ e1 fun hb => by rw [hnf b hb] at q; cases q⟩
theorem pass_xe {P:Program} {w:World} {K:PySem.W.Frag} {mg:Str → Option Value} {base:Heap} {N:List Str} {qual:Str} {scope:Scope} {f:Addr} {cd:Value} {A:Around} {outer:List Env} {s:Shared} {H:Hp} {E E2:XK}
  {pins:List (Addr × Obj)} {σ:L2.St} {H2:Hp} {s2 s3:Shared} {ev:Value}
  (I:Inv (cxOf (CX1 P w) P w K mg base N qual scope f cd A outer s H E) pins σ H2 s2) (hx:CX1 P w (envOfC qual scope s.heap.objs.size f cd :: outer) H2 s2 E2 ev s3) (hE:∀ c H',E2 c none H' → E c none H') :
  (cxOf (CX1 P w) P w K mg base N qual scope f cd A outer s H E).xe ev s3:=by
 obtain ⟨e,t,C,H',B,rfl,hos,hbare,U2,hok,hE2,fl0,cov,covT⟩:=hx
 have hst:=I.stack
 have hnf:∀ b,b ∈ frs (envOfC qual scope s.heap.objs.size f cd :: outer) → H2 b = none:=I.stkFree
 show wpAny _ _ (leaving _ (.ref e)) _ _ _
 refine wpAny_leaves_onW I.ok.frames rfl fl0 fun h'' fl up => ?_
 have U:=I.base
 have nl:∀ b o,s.heap.get? b = some o → b ∉ frs outer → b ∉ frs (envOfC qual scope s.heap.objs.size f cd :: outer):=fun b o q nb hb => by
  rcases List.mem_cons.mp (show b ∈ s.heap.objs.size :: frs outer from hb) with z | z
  ·exact absurd (Heap.lt_size q) (by rw [z]; exact Nat.lt_irrefl _)
  ·exact nb z
 have same:∀ b o o',s3.heap.get? b = some o → B.get? b = some o' → h''.get? b = some o:=fun b o o' q1 q2 => by
  have:=fl0.1 b o' q2
  rw [q1] at this
  cases this
  exact fl.1 b o q2
 have slot:∀ b o,s3.heap.get? b = some o → b ∈ frs (envOfC qual scope s.heap.objs.size f cd :: outer) → ∃ sl,h''.get? b = some { o with slots:=sl }:=fun b o q hb => by
  obtain ⟨_,o',ho',hnr⟩:=fl0.2.2.1.mem hb
  rw [q] at ho'
  cases ho'
  exact up b o q hnr
 refine ⟨e,t,C,H',B,rfl,hos.trans I.os,hbare,⟨fun b o q n nb _ => ?_,fun b o q n hb _ => ?_,fun b o q n _ => ?_,fun b o q _ => ?_,fun b xs q => U2.tups b xs (U.tups b xs q),fun b o u q => U2.frzs b o u (U.frzs b o u q),fun b ps q => ?_⟩,fun a o q => ?_,hE _ _ hE2,fl,fun b o q nb => ?_,covT⟩
 ·have q1:=U.keep b o q n nb (fun z => nomatch z)
  have n1:=U.free b o q n (fun z => nomatch z)
  have nl1:=nl b o q nb
  obtain ⟨o',hB⟩:=cov b o q1 nl1
  exact same b o o' (U2.keep b o q1 n1 nl1 (fun z => nomatch z)) hB
 ·obtain ⟨sl,e1⟩:=U.slot b o q n hb (fun z => nomatch z)
  have n1:=U.free b o q n (fun z => nomatch z)
  obtain ⟨sl2,e2⟩:=U2.slot b _ e1 n1 (List.mem_cons_of_mem _ hb) (fun z => nomatch z)
  obtain ⟨sl3,e3⟩:=slot b _ e2 (List.mem_cons_of_mem _ hb)
  exact ⟨sl3,e3⟩
 ·have n1:=U.free b o q n (fun z => nomatch z)
  obtain ⟨o1,e1⟩:=U.there b o q (fun z => nomatch z)
  exact U2.free b o1 e1 n1 (fun z => nomatch z)
 ·obtain ⟨o1,e1⟩:=U.there b o q (fun z => nomatch z)
  obtain ⟨o2,e2⟩:=U2.there b o1 e1 (fun z => nomatch z)
  by_cases hb:b ∈ frs (envOfC qual scope s.heap.objs.size f cd :: outer)
  ·obtain ⟨sl,e3⟩:=slot b o2 e2 hb
   exact ⟨_,e3⟩
  ·obtain ⟨o',hB⟩:=cov b o1 e1 hb
   exact ⟨o2,same b o2 o' e2 hB⟩
 ·obtain ⟨m1,e1⟩:=U.tbls b ps q
  obtain ⟨m2,e2⟩:=U2.tbls b _ e1
  exact ⟨m1 ++ m2,by rw [e2,Array.append_assoc]⟩
 ·refine (hok a o q).stay (fun c v hc r => ?_) (fun _ r => r) fun _ _ r => r
  have hT:∃ o1,H' c = some o1:=by
   rcases hc with rfl | hc
   ·exact ⟨_,q⟩
   ·exact ⟨_,hc⟩
  obtain ⟨o1,h1⟩:=hT
  obtain ⟨o',hB⟩:=covT c o1 h1
  exact same c v o' r hB
 ·obtain ⟨o1,e1⟩:=U.there b o q (fun z => nomatch z)
  exact cov b o1 e1 (nl b o q nb)
end L2
namespace L2
open PySem PySem.Spec PyProof.Rows
theorem own_in {K:PySem.W.Frag} {h:Heap} {mg:Str → Option Value} {x:Str} {C:Addr} {bmB:List Value} {newId:String} (X:K.In h) (hx:mg x = some (.ref C)) (q:PySem.W.excIn K C bmB newId = true):OwnCls x C bmB newId mg h:=by
 refine ⟨hx,?_⟩
 unfold PySem.W.excIn at q
 match hl:K.lookup C with
 | none => rw [hl] at q; cases q
 | some o =>
  rw [hl] at q
  split at q
  ·rename_i dd cd sl e
   cases e
   split at q
   ·rename_i C' bm k0 k1 k2 k3 n k5 hm hs
    simp only [Bool.and_eq_true,beq_iff_eq,Bool.not_eq_true'] at q
    obtain ⟨⟨⟨⟨⟨e1,e2⟩,e3⟩,e4⟩,e5⟩,e6⟩:=q
    subst e1 e2
    cases cd
    simp only at hm e3 e5 e6
    subst hm e3
    cases sl
    simp only at hs
    subst hs
    exact ⟨_,_,_,_,_,_,_,_,_,_,_,_,_,_,_,_,_,X _ _ hl,.of_isNs (PySem.W.isNs_of_in X e5),PySem.W.nsMap_none_of_in X e5 e6,PySem.W.tail_of_in X e4⟩
   ·cases q
  ·cases q
noncomputable def tRaise (X:Cx) (C:Addr):TS:=fun _ σ H => ∀ (pins:List (Addr × Obj)) (s:Shared) (h':Heap) (e:Addr) (vs:List Value),Inv X pins σ H s → Heap.MadeExcOf s.heap h' e (.ref C) vs → X.xe (.ref e) { s with heap:=h' }
theorem ps_raise {X:Cx} {x:Str} {C:Addr} {bmB:List Value} {B newId initId:String} {np cpos pos p2:Pos} {m:Str} {j:Nat} (F:ExcBaseFacts B newId initId bmB) (hc:X.calm = true) (hg:Gl X x) (hm:X.mg x = some (.ref C)) (q:PySem.W.excIn X.K C bmB newId = true)
  (hpl:(backTo cpos (starEach [.Constant (.str m) j p2] X.env)).any (·.1) = false:=by rfl) (hs:starEach [.Constant (.str m) j p2] X.env = (false,eval (.Constant (.str m) j p2) X.env) :: starEach [] X.env:=by rfl) (hd:(x == ("__debug__":Str)) = false:=by decide) :
  PS X (.Raise (some (.Call (.Name x np) [.Constant (.str m) j p2] [] cpos)) none pos) (tRaise X C):=by
 intro pins s σ H D I h
 have e0:=I.env0
 have KX:X.K.In s.heap:=e0.mod.kin.keeps fun b o e => (e0.bs b o e).1
 obtain ⟨bm,N,nm,qn,bs,hdct,sn,sub,ab,col,dd,k0,k1,k2,k3,k5,mN,hC,hN,hni,T⟩:=(own_in KX hm q).obj
 refine wpAny_Raise_call_subT (C:=C) (nm:=nm) (q:=qn) (N:=N) (bs:=bs) (bm:=bm) (hdct:=hdct) (sn:=sn) (sub:=sub) (ab:=ab) (col:=col) (dd:=dd) (k0:=k0) (k1:=k1) (k2:=k2) (k3:=k3) (k5:=k5) F (T.hasType F.hasBase) (I.ok.hd hc) hpl hni (ld_glob I hg hm ⟨rfl,?_⟩ hd)
 refine Calls.evalArgs_plain (Calls.spliced_cons (Calls.Constant_str (k:=j) (pos:=p2) (Calls.spliced_nil ?_)))
 exact ⟨rfl,by show 1 ≤ sizeLine; decide,hC,hN,T,fun h' e hx => h pins _ h' e _ (I.tok _) hx⟩
end L2
namespace L2
open PySem PySem.Spec PyProof.Rows
theorem Un.held {P:Program} {w:World} {l:List Env} {H H':Hp} {h0 h3 h5 B:Heap} {e:Addr} {cls a0:Value} (U:Un (frs l) [] H H' h0 h3) (hok:HOk P w H' h3) (fl:Heap.FlyingW B l e cls a0 h3) (st:B.StaysIn h5) (up:h3.UpToSlots h5)
  (cov:∀ b o,h0.get? b = some o → b ∉ frs l → ∃ o',B.get? b = some o') (covT:∀ b o,H' b = some o → ∃ o',B.get? b = some o'):Un (frs l) [] H H' h0 h5 ∧ HOk P w H' h5:=by
 have same:∀ b o o',h3.get? b = some o → B.get? b = some o' → h5.get? b = some o:=fun b o o' q1 q2 => by
  have:=fl.1 b o' q2
  rw [q1] at this
  cases this
  exact st b o q2
 have slot:∀ b o,h3.get? b = some o → b ∈ frs l → ∃ sl,h5.get? b = some { o with slots:=sl }:=fun b o q hb => by
  obtain ⟨_,o',ho',hnr⟩:=fl.2.2.1.mem hb
  rw [q] at ho'
  cases ho'
  exact up b o q hnr
 refine ⟨⟨fun b o q n nb hx => ?_,fun b o q n hb hx => ?_,U.free,fun b o q hx => ?_,U.tups,U.frzs,U.tbls⟩,fun a o q => ?_⟩
 ·obtain ⟨o',hB⟩:=cov b o q nb
  exact same b o o' (U.keep b o q n nb hx) hB
 ·obtain ⟨sl,e1⟩:=U.slot b o q n hb hx
  obtain ⟨sl2,e2⟩:=slot b _ e1 hb
  exact ⟨sl2,e2⟩
 ·obtain ⟨o2,e2⟩:=U.there b o q hx
  by_cases hb:b ∈ frs l
  ·obtain ⟨sl,e3⟩:=slot b o2 e2 hb
   exact ⟨_,e3⟩
  ·obtain ⟨o',hB⟩:=cov b o q hb
   exact ⟨o2,same b o2 o' e2 hB⟩
 ·refine (hok a o q).stay (fun c v hc r => ?_) (fun _ r => r) fun _ _ r => r
  have hT:∃ o1,H' c = some o1:=by
   rcases hc with rfl | hc
   ·exact ⟨_,q⟩
   ·exact ⟨_,hc⟩
  obtain ⟨o1,h1⟩:=hT
  obtain ⟨o',hB⟩:=covT c o1 h1
  exact same c v o' r hB
end L2
namespace L2
open PySem PySem.Spec PyProof.Rows
section
variable {M:Model} {A:Around} {E:Value → Shared → Prop} {h:Heap} {g:Array GenState} {d:Drawn} {t:Nat} {os:OsState} {e C:Addr} {oe:Obj}
 {nm q:Str} {N:Addr} {bs bm:List Value} {hdct:Bool} {sn:List Str} {sub:List Value} {ab:Bool} {col:Option Bool} {dd:Option Addr} {k0 k1 k2 k3 k5:Option Value} {newId:String}
 {nm' q':Str} {N' D:Addr} {bs' bm':List Value} {hdct':Bool} {sn':List Str} {sub':List Value} {ab':Bool} {col':Option Bool} {dd':Option Addr} {k0' k1' k2' k3' k5':Option Value} {newId':String}
theorem excMatches_own {Q:Bool → Shared → Prop} (hC:h.get? C = some (excClassObj nm q C N bs bm hdct sn sub ab col dd k0 k1 k2 k3 k5 newId)) (he:h.get? e = some oe) (hcls:oe.cls = .ref C)
  (hD:h.get? D = some (excClassObj nm' q' D N' bs' bm' hdct' sn' sub' ab' col' dd' k0' k1' k2' k3' k5' newId')) (hbase:bm'.contains (.type "BaseException") = true)
  (hq:Q ((Value.ref C :: bm).contains (.ref D)) ⟨h,g,d,t,os⟩):wpAny M A (excMatches (.ref e) (.ref D)) Q E ⟨h,g,d,t,os⟩:=by
 have hcB:(Value.ref D :: bm').contains (.type "BaseException") = true:=by rw [List.contains_cons,hbase,Bool.or_true]
 have f:=tc_notTuple
 unfold excMatches
 cases hb:(Value.ref C :: bm).contains (.ref D) <;> rw [hb] at hq <;>
 repeat (first | (with_reducible refine wpAny_loadPart_at he ?_; rw [hcls]) | with_reducible refine wpAny_loadPart_at hD ?_ | (with_reducible refine wpAny_isSubtype_exc hD ?_; rw [hcB]) | (with_reducible refine wpAny_isSubtype_exc hC ?_; rw [hb]) | wp_step)
 all_goals exact hq
end
noncomputable def OwnAt (h:Heap) (C:Addr) (bm:List Value):Prop:=∃ nm q N bs hdct sn sub ab col dd k0 k1 k2 k3 k5 newId,h.get? C = some (excClassObj nm q C N bs bm hdct sn sub ab col dd k0 k1 k2 k3 k5 newId) ∧ bm.contains (.type "BaseException") = true
end L2
namespace L2
open PySem PySem.Spec PyProof.Rows
structure Cau (X:Cx) (pins:List (Addr × Obj)) (σ:L2.St) (H':Hp) (e t C:Addr) (B:Heap) (s:Shared):Prop where
 org:∃ H0 s0,Inv X pins σ H0 s0 ∧ s.os = s0.os ∧ Un (frs X.stack) [] H0 H' s0.heap s.heap ∧ ∀ b o,s0.heap.get? b = some o → b ∉ frs X.stack → ∃ o',B.get? b = some o'
 bare:AllBare s.gens
 hok:HOk X.prog X.w H' s.heap
 fly:Heap.FlyingW B X.stack e (.ref C) (.ref t) s.heap
 cov:∀ b o,H' b = some o → ∃ o',B.get? b = some o'
section
variable {X:Cx} {pins:List (Addr × Obj)} {σ:L2.St} {H':Hp} {e t C:Addr} {B h':Heap} {s:Shared}
theorem Cau.inv (c:Cau X pins σ H' e t C B s):Inv X pins σ H' s:=by
 obtain ⟨H0,s0,I,hos,U,_⟩:=c.org
 exact I.call' (ch:=[]) hos U c.hok c.bare fun b z => nomatch z
theorem Cau.slots {tk:Nat} (c:Cau X pins σ H' e t C B s) (fl:Heap.FlyingW B X.stack e (.ref C) (.ref t) h') (up:s.heap.UpToSlots h'):Cau X pins σ H' e t C B { s with heap:=h',toks:=tk }:=by
 obtain ⟨H0,s0,I,hos,U,cov⟩:=c.org
 obtain ⟨U',hk⟩:=U.held c.hok c.fly fl.1 up cov c.cov
 exact ⟨⟨H0,s0,I,hos,U',cov⟩,c.bare,hk,fl,c.cov⟩
end
theorem cau {X:Cx} {pins:List (Addr × Obj)} {σ:L2.St} {H:Hp} {s s3:Shared} {ev:Value} {E2:XK} {Q:Unit → Shared → Prop} {E:Value → Shared → Prop} (hs:X.stack = X.env :: X.outer) (hf:X.env.frame = some X.env.locals)
  (I:Inv X pins σ H s) (hx:CX1 X.prog X.w X.stack H s E2 ev s3)
  (k:∀ e t C H' B h5,ev = .ref e → E2 (.ref C) none H' → Cau X pins σ H' e t C B { s3 with heap:=h5 } → Q () { s3 with heap:=h5 }) :
  wpAny (model X.prog X.w) X.A (noteFrame ev X.env) (fun _ s₂ => wpAny (model X.prog X.w) X.A (setFlight ev none) Q E s₂) E s3:=by
 obtain ⟨e,t,C,H',B,rfl,hos,hbare,U2,hok,hE2,fl0,cov,covT⟩:=hx
 refine wpAny_looks_onW (outer:=X.outer) (by rw [I.ok.frames,hs]) hf (by rw [← hs]; exact fl0) fun h4 held up4 => ?_
 refine wpAny_landsW held fun h5 fl5 up5 => ?_
 obtain ⟨U,hk⟩:=U2.held hok fl0 fl5.1 (up4.trans up5) cov covT
 exact k e t C H' B h5 rfl hE2 ⟨⟨H,s,I,hos,U,cov⟩,hbare,hk,by rw [hs]; exact fl5,covT⟩
noncomputable abbrev Cx.mark (X:Cx) (ev:Value):Cx:={ X with A:=X.A.mark (some ev),calm:=false,xe:=fun _ _ => False }
section
variable {X:Cx} {pins:List (Addr × Obj)} {σ:L2.St} {H:Hp} {s:Shared} {ev:Value}
theorem Inv.mark (I:Inv X pins σ H s) (ev:Value):Inv (X.mark ev) pins σ H s :=
 ⟨⟨I.ok.mod,I.ok.kind,I.ok.glob,I.ok.blt,I.ok.above,I.ok.inj,I.ok.has,I.ok.cab,(fun h => by cases h),I.ok.frames,I.ok.stk,I.ok.exf,I.ok.bs,I.ok.bsz,I.ok.noex,I.ok.exfs,I.ok.funs,I.ok.frf⟩,I.os,I.bare,I.base,I.loc,I.cell,I.free,I.freeC,I.pin,I.hok,I.len⟩
theorem Inv.unmark (ok:X.Ok) (I:Inv (X.mark ev) pins σ H s):Inv X pins σ H s:=⟨ok,I.os,I.bare,I.base,I.loc,I.cell,I.free,I.freeC,I.pin,I.hok,I.len⟩
theorem SP.unmark {D:Ends} {f:Flow} (ok:X.Ok) (h:SP (X.mark ev) pins D f s):SP X pins D f s:=by
 cases f with
 | next => obtain ⟨σ',H',I,q⟩:=h; exact ⟨σ',H',I.unmark ok,q⟩
 | brk => obtain ⟨σ',H',I,q⟩:=h; exact ⟨σ',H',I.unmark ok,q⟩
 | cont => obtain ⟨σ',H',I,q⟩:=h; exact ⟨σ',H',I.unmark ok,q⟩
 | ret u => obtain ⟨v,σ',H',I,r,q⟩:=h; exact ⟨v,σ',H',I.unmark ok,r,q⟩
end
end L2
namespace L2
open PySem PySem.Spec PyProof.Rows
noncomputable def Suite (X:Cx) (e:Addr) (name:Option Str) (body:List Stmt) (pos:Pos) (Q:Flow → Shared → Prop) (E:Value → Shared → Prop) (s:Shared):Prop :=
 codeAny (model X.prog X.w) (X.A.mark (some (.ref e))) (.handlers (.ref e) [.ExceptHandler none name body pos] X.env) (fun r s₂ => match r with
  | .ok f => (match name with
   | none => Q f s₂
   | some n => wpAny (model X.prog X.w) X.A (do bindName X.env n .none; unbindBehindTheSuite X.env n pos) (fun _ s₃ => Q f s₃) E s₂)
  | .error x => cameBackBy (model X.prog X.w) X.A X.env E x s₂) s
section
variable {X:Cx} {pins:List (Addr × Obj)} {σ:L2.St} {H':Hp} {e t C D:Addr} {B:Heap} {s:Shared} {bm:List Value} {x:Str} {np pos:Pos} {name:Option Str} {body:List Stmt} {rest:List ExceptHandler} {Q:Flow → Shared → Prop} {E:Value → Shared → Prop}
theorem hand_name (c:Cau X pins σ H' e t C B s) (hC:OwnAt s.heap C bm) (hD:∃ bm',OwnAt s.heap D bm') (hg:Gl X x) (hm:X.mg x = some (.ref D))
  (k:if (Value.ref C :: bm).contains (.ref D) = true then Suite X e name body pos Q E s else wpAny (model X.prog X.w) X.A (handleBy (.ref e) X.env rest) Q E s) (hd:(x == ("__debug__":Str)) = false:=by decide) :
  wpAny (model X.prog X.w) X.A (handleBy (.ref e) X.env (.ExceptHandler (some (.Name x np)) name body pos :: rest)) Q E s:=by
 obtain ⟨ob,hob,hcls⟩:=c.fly.there
 refine wpAny_handleBy_cons (codeAny_handlers_test (ld_glob (X:=X.mark (.ref e)) (c.inv.mark _) hg hm ?_ hd)) (by intro q; cases q)
 obtain ⟨nm,q,N,bs,hdct,sn,sub,ab,col,dd,k0,k1,k2,k3,k5,newId,hC',_⟩:=hC
 obtain ⟨bm',nm',q',N',bs',hdct',sn',sub',ab',col',dd',k0',k1',k2',k3',k5',newId',hD',hb'⟩:=hD
 obtain ⟨h,g,d,tk,os⟩:=s
 refine excMatches_own hC' hob hcls hD' hb' ?_
 cases hb:(Value.ref C :: bm).contains (.ref D) with
 | true => rw [hb] at k; exact k
 | false => rw [hb] at k; exact k
theorem suite_none {ts:TS} {D:Ends} {b₀:Stmt} {tl:List Stmt} (c:Cau X pins σ H' e t C B s) (hs:∀ ev,PSs (X.mark ev) (b₀ :: tl) ts) (h:ts D σ H'):Suite X e none (b₀ :: tl) pos (SP X pins D) E s:=by
 have ok:=c.inv.ok
 refine codeAny_handlers_suite (lands_againW c.fly fun h6 fl6 up6 => ?_)
 have c6:=Cau.slots (tk:=s.toks) c fl6 up6
 exact wpAny_mono (hs (.ref e) pins _ σ H' D (c6.inv.mark _) h) (fun f s2 q => SP.unmark ok q) fun _ _ z => False.elim z
end
end L2
namespace L2
open PySem PySem.Spec PyProof.Rows
noncomputable abbrev NmD:=Str × Pos × Addr
section
variable {X:Cx} {pins:List (Addr × Obj)} {σ:L2.St} {H':Hp} {e t C:Addr} {B:Heap} {s:Shared} {bm:List Value} {pos:Pos} {name:Option Str} {body:List Stmt} {rest:List ExceptHandler} {Q:Flow → Shared → Prop} {E:Value → Shared → Prop}
noncomputable def nmE (n:NmD):Expr:=.Name n.1 n.2.1
structure NmOk (X:Cx) (n:NmD):Prop where
 g:Gl X n.1
 m:X.mg n.1 = some (.ref n.2.2)
 d:(n.1 == ("__debug__":Str)) = false
theorem OwnAt.keeps {h h':Heap} {C:Addr} {bm:List Value} (o:OwnAt h C bm) (k:∀ b o,h.get? b = some o → h'.get? b = some o):OwnAt h' C bm:=by
 obtain ⟨nm,q,N,bs,hdct,sn,sub,ab,col,dd,k0,k1,k2,k3,k5,newId,hC,hb⟩:=o
 exact ⟨nm,q,N,bs,hdct,sn,sub,ab,col,dd,k0,k1,k2,k3,k5,newId,k _ _ hC,hb⟩
end
end L2
namespace L2
open PySem PySem.Spec PyProof.Rows
section
variable {X:Cx} {pins:List (Addr × Obj)} {σ:L2.St} {H:Hp} {s:Shared}
theorem Inv.track {a:Addr} {φ:Heap → Prop} (I:Inv X pins σ H s) (hn:H a = none) (ha:∃ o,s.heap.get? a = some o) (h0:X.s₀.heap.get? a = none) (hL:a ≠ X.env.locals) (hc:∀ x c,X.env.cells.lookup x = some c → c ≠ a) (hp:∀ p ∈ X.pn ++ pins,p.1 ≠ a)
  (hφ:φ s.heap) (st:∀ h1 h2:Heap,φ h1 → (∀ o,h1.get? a = some o → h2.get? a = some o) → φ h2):Inv X pins σ (upd H a (.ext φ)) s:=by
 have U:=I.base
 have ne:∀ b o,H b = some o → b ≠ a:=fun b o q z => by rw [z,hn] at q; cases q
 have keepH:∀ b o,H b = some o → upd H a (.ext φ) b = some o:=fun b o q => by rw [upd_ne (ne b o q)]; exact q
 refine ⟨I.ok,I.os,I.bare,⟨U.keep,U.slot,fun b o q n hx => ?_,U.there,fun b xs q => keepH b _ (U.tups b xs q),fun b o u q => keepH b _ (U.frzs b o u q),fun b ps q => ?_⟩,I.loc,I.cell,?_,fun x c q => ?_,fun p h => ?_,fun b o q => ?_,I.len⟩
 ·have z:b ≠ a:=fun z => by rw [z,h0] at q; cases q
  rw [upd_ne z]; exact U.free b o q n hx
 ·obtain ⟨m,e1⟩:=U.tbls b ps q
  exact ⟨m,keepH b _ e1⟩
 ·rw [upd_ne hL.symm]; exact I.free
 ·rw [upd_ne (hc x c q)]; exact I.freeC x c q
 ·obtain ⟨e1,e2,e3⟩:=I.pin p h
  exact ⟨e1,by rw [upd_ne (hp p h)]; exact e2,e3⟩
 ·by_cases z:b = a
  ·subst z
   rw [upd_same] at q
   cases q
   exact ⟨hφ,ha,st⟩
  ·rw [upd_ne z] at q
   exact (I.hok b o q).stay (fun c v _ r => r) (fun _ r => keepH _ _ r) fun _ _ r => keepH _ _ r
theorem unbind_ok {M:Model} {A:Around} {E:Value → Shared → Prop} {i:Nat} {x:Str} {v:V} {Q:Unit → Shared → Prop} (I:Inv X pins σ H s) (hN:X.N.Nodup) (hi:X.N[i]? = some x) (hk:X.env.scope.names.lookup x = some .local) (hv:σ[i]? = some (some v))
  (h:∀ s',Inv X pins (σ.set i none) H s' → Q () s'):wpAny M A (unbindName X.env x) Q E s:=by
 obtain ⟨m,hn,hl⟩:=id I.loc
 have hcls:(X.env.scope.kind == .class || (X.env.scope.kind == .module && X.env.locals != X.env.globals)) = false:=by rw [I.ok.kind]; rfl
 have hiσ:i < σ.length:=by rw [I.len]; exact (List.getElem?_eq_some_iff.mp hi).1
 have cne:=I.cne
 obtain ⟨u,_,q⟩:=hl i x v hi hv (.inl hk)
 have hm:m x = some u:=by
  rcases q with ⟨_,e⟩ | ⟨k,_⟩
  ·exact e
  ·have hk':X.env.kindOf x = some .local:=hk
   rw [hk'] at k
   rcases k with k | k <;> cases k
 refine wpAny_unbindName_local hk hn hm hcls fun h' u' hn' hs => ?_
 have tracked:HOk X.prog X.w H h':=fun b ob e => by
  refine (I.hok b ob e).stay (fun c w' hc q => (hs.2 c ?_).trans q) (fun _ q => q) fun _ _ q => q
  rintro rfl
  have hfree:=I.free
  rcases hc with rfl | hc
  ·rw [hfree] at e; cases e
  ·rw [hfree] at hc; cases hc
 have far:∀ b o,X.s₀.heap.get? b = some o → b ≠ X.env.locals:=fun b o e => Nat.ne_of_lt (Nat.lt_of_lt_of_le (Heap.lt_size e) I.ok.above)
 refine h _ ⟨I.ok,I.os,I.bare,⟨fun b o e n hb hx => ?_,fun b o e n hb hx => ?_,I.base.free,fun b o e hx => ?_,I.base.tups,I.base.frzs,I.base.tbls⟩,⟨_,hn',fun j y v' e1 e2 e3 => ?_⟩,fun y c e => ?_,I.free,I.freeC,fun p hp => ?_,tracked,by simpa using I.len⟩
 ·exact (hs.2 b (far b o e)).trans (I.base.keep b o e n hb hx)
 ·obtain ⟨sl,e1⟩:=I.base.slot b o e n hb hx
  exact ⟨sl,(hs.2 b (far b o e)).trans e1⟩
 ·obtain ⟨o',e1⟩:=I.base.there b o e hx
  exact ⟨o',(hs.2 b (far b o e)).trans e1⟩
 ·by_cases hj:j = i
  ·subst hj
   rw [List.getElem?_set_self hiσ] at e2
   cases e2
  ·rw [List.getElem?_set_ne (Ne.symm hj)] at e2
   obtain ⟨w',r',q'⟩:=hl j y v' e1 e2 e3
   refine ⟨w',r',?_⟩
   rcases q' with ⟨k,e⟩ | ⟨k,c,e,z⟩
   ·have:y ≠ x:=fun e => hj (nodup_ix hN e1 (e ▸ hi))
    exact .inl ⟨k,by simp [this,e]⟩
   ·exact .inr ⟨k,c,e,z.sameBut hs (cne y c e)⟩
 ·obtain ⟨w',z⟩:=I.cell y c e
  exact ⟨w',z.sameBut hs (cne y c e)⟩
 ·obtain ⟨e,n,ne,nf,d⟩:=I.pin p hp
  exact ⟨(hs.2 p.1 ne).trans e,n,ne,nf,d⟩
end
end L2
namespace L2
open PySem PySem.Spec PyProof.Rows
noncomputable def ExcCls (e C:Addr) (h:Heap):Prop:=∃ o,h.get? e = some o ∧ o.cls = .ref C
section
variable {X:Cx} {pins:List (Addr × Obj)} {σ:L2.St} {H':Hp} {e t C:Addr} {B:Heap} {s:Shared} {pos:Pos} {E:Value → Shared → Prop}
theorem Cau.tracked (φ:Heap → Prop) (hφ:∀ h,ExcCls e C h → φ h) (st:∀ h1 h2:Heap,φ h1 → (∀ o,h1.get? e = some o → h2.get? e = some o) → φ h2) (hs:X.stack = X.env :: X.outer) (hf:X.env.frame = some X.env.locals) (hex:X.ex = []) (c:Cau X pins σ H' e t C B s):Inv X pins σ (upd H' e (.ext φ)) s:=by
 have I:=c.inv
 obtain ⟨H0,s0,I0,hos,U,cov⟩:=c.org
 have hBe:B.get? e = none:=c.fly.2.1
 obtain ⟨oe,vs,T,oT,ts,he,⟨hcls,_⟩,hd,_⟩:=c.fly.2.2.2
 have nf:e ∉ frs X.stack:=fun hb => by
  obtain ⟨_,o,ho,hnr⟩:=c.fly.2.2.1.mem hb
  rw [he] at ho
  cases ho
  exact hnr vs hd
 have nB:∀ b o,s0.heap.get? b = some o → b ∉ frs X.stack → b ≠ e:=fun b o q nb z => by
  obtain ⟨o',h1⟩:=cov b o q nb
  rw [z,hBe] at h1
  cases h1
 have hLf:X.env.locals ∈ frs X.stack:=by
  rw [hs]
  exact List.mem_filterMap.mpr ⟨X.env,.head _,hf⟩
 refine I.track ?_ ⟨oe,he⟩ ?_ (fun z => nf (z ▸ hLf)) (fun x cc q z => ?_) (fun p hp z => ?_) (hφ _ ⟨oe,he,hcls⟩) st
 ·cases q:H' e with
  | none => rfl
  | some o =>
   obtain ⟨o',h1⟩:=c.cov e o q
   rw [hBe] at h1
   cases h1
 ·cases q:X.s₀.heap.get? e with
  | none => rfl
  | some o =>
   obtain ⟨o',h1⟩:=I0.base.there e o q (by rw [hex]; exact fun z => nomatch z)
   exact absurd rfl (nB e o' h1 nf)
 ·obtain ⟨v,o,h1,h2⟩:=I.cell x cc q
  rw [z,he] at h1
  cases h1
  rw [hd] at h2
  cases h2
 ·obtain ⟨h1,_,h3,h4,_⟩:=I0.pin p hp
  refine nB p.1 p.2 h1 (fun hb => ?_) z
  rw [hs] at hb
  rcases List.mem_filterMap.mp hb with ⟨env,hm,hfe⟩
  rcases List.mem_cons.mp hm with rfl | hm
  ·rw [hf] at hfe
   exact h3 (Option.some.inj hfe).symm
  ·exact h4 (List.mem_filterMap.mpr ⟨env,hm,hfe⟩)
noncomputable def Ends.less (i:Nat) (D:Ends):Ends:={ D with nx:=fun σ H => D.nx (σ.set i none) H,bk:=fun σ H => D.bk (σ.set i none) H,ct:=fun σ H => D.ct (σ.set i none) H }
theorem less_ok {i:Nat} {n:Str} {D:Ends} {f:Flow} {s2:Shared} (hN:X.N.Nodup) (hi:X.N[i]? = some n) (hk:X.env.scope.names.lookup n = some .local) (h:SP X pins (D.less i) f s2) :
  wpAny (model X.prog X.w) X.A (do bindName X.env n .none; unbindBehindTheSuite X.env n pos) (fun _ s₃ => SP X pins D f s₃) E s2:=by
 have go:∀ {σ':L2.St} {H2:Hp} (R:L2.St → Prop),Inv X pins σ' H2 s2 → (∀ s3,Inv X pins (σ'.set i none) H2 s3 → SP X pins D f s3) → wpAny (model X.prog X.w) X.A (do bindName X.env n .none; unbindBehindTheSuite X.env n pos) (fun _ s₃ => SP X pins D f s₃) E s2:=fun {σ' H2} R I k => by
  refine wpAny_bind (wpAny_bindName (store_ok (v:=.non) I hN hi (.inl hk) rfl (fun s3 I3 => ?_) (.inr hk)))
  refine wpAny_onRaise (unbind_ok (v:=.non) I3 hN hi hk ?_ fun s4 I4 => ?_)
  ·rw [List.getElem?_set_self (by rw [I.len]; exact (List.getElem?_eq_some_iff.mp hi).1)]
  ·rw [List.set_set] at I4
   exact k s4 I4
 cases f with
 | next => obtain ⟨σ',H2,I,q⟩:=h; exact go (fun _ => True) I fun s3 I3 => ⟨_,_,I3,q⟩
 | brk => obtain ⟨σ',H2,I,q⟩:=h; exact go (fun _ => True) I fun s3 I3 => ⟨_,_,I3,q⟩
 | cont => obtain ⟨σ',H2,I,q⟩:=h; exact go (fun _ => True) I fun s3 I3 => ⟨_,_,I3,q⟩
 | ret u => obtain ⟨v,σ',H2,I,r,q⟩:=h; exact go (fun _ => True) I fun s3 I3 => ⟨v,_,_,I3,r,q⟩
theorem suite_as {φ:Heap → Prop} {i:Nat} {n:Str} {ts:TS} {D:Ends} {b₀:Stmt} {tl:List Stmt} (hs:X.stack = X.env :: X.outer) (hf:X.env.frame = some X.env.locals) (hex:X.ex = []) (hN:X.N.Nodup) (hi:X.N[i]? = some n) (hk:X.env.scope.names.lookup n = some .local)
  (c:Cau X pins σ H' e t C B s) (hφ:∀ h,ExcCls e C h → φ h) (st:∀ h1 h2:Heap,φ h1 → (∀ o,h1.get? e = some o → h2.get? e = some o) → φ h2) (hp:∀ ev,PSs (X.mark ev) (b₀ :: tl) ts) (h:ts (D.less i) (σ.set i (some (.ref e))) (upd H' e (.ext φ))):Suite X e (some n) (b₀ :: tl) pos (SP X pins D) E s:=by
 have ok:=c.inv.ok
 refine codeAny_handlers_suite_as (lands_againW c.fly fun h6 fl6 up6 => ?_)
 have c6:=Cau.slots (tk:=s.toks) c fl6 up6
 have I6:=c6.tracked φ hφ st hs hf hex
 refine store_ok (v:=.ref e) I6 hN hi (.inl hk) rfl (fun s3 I3 => ?_) (.inr hk)
 exact wpAny_mono (hp (.ref e) pins s3 _ _ (D.less i) (I3.mark _) h) (fun f s2 q => less_ok hN hi hk (SP.unmark ok q)) fun _ _ z => False.elim z
end
end L2
namespace L2
open PySem PySem.Spec PyProof.Rows
structure Hel (X:Cx) (pins:List (Addr × Obj)) (σ:L2.St) (H':Hp) (e t C:Addr) (B:Heap) (s:Shared):Prop where
 org:∃ H0 s0,Inv X pins σ H0 s0 ∧ s.os = s0.os ∧ Un (frs X.stack) [] H0 H' s0.heap s.heap ∧ ∀ b o,s0.heap.get? b = some o → b ∉ frs X.stack → ∃ o',B.get? b = some o'
 bare:AllBare s.gens
 hok:HOk X.prog X.w H' s.heap
 held:Heap.HeldW B X.stack e (.ref C) (.ref t) X.env.locals s.heap
 cov:∀ b o,H' b = some o → ∃ o',B.get? b = some o'
theorem un_held {P:Program} {w:World} {l:List Env} {H H':Hp} {h0 h3 h5 B:Heap} (U:Un (frs l) [] H H' h0 h3) (hok:HOk P w H' h3) (st0:B.StaysIn h3) (ff:h3.FunFrames B l) (st:B.StaysIn h5) (up:h3.UpToSlots h5)
  (cov:∀ b o,h0.get? b = some o → b ∉ frs l → ∃ o',B.get? b = some o') (covT:∀ b o,H' b = some o → ∃ o',B.get? b = some o'):Un (frs l) [] H H' h0 h5 ∧ HOk P w H' h5:=by
 have same:∀ b o o',h3.get? b = some o → B.get? b = some o' → h5.get? b = some o:=fun b o o' q1 q2 => by
  have:=st0 b o' q2
  rw [q1] at this
  cases this
  exact st b o q2
 have slot:∀ b o,h3.get? b = some o → b ∈ frs l → ∃ sl,h5.get? b = some { o with slots:=sl }:=fun b o q hb => by
  obtain ⟨_,o',ho',hnr⟩:=ff.mem hb
  rw [q] at ho'
  cases ho'
  exact up b o q hnr
 refine ⟨⟨fun b o q n nb hx => ?_,fun b o q n hb hx => ?_,U.free,fun b o q hx => ?_,U.tups,U.frzs,U.tbls⟩,fun a o q => ?_⟩
 ·obtain ⟨o',hB⟩:=cov b o q nb
  exact same b o o' (U.keep b o q n nb hx) hB
 ·obtain ⟨sl,e1⟩:=U.slot b o q n hb hx
  obtain ⟨sl2,e2⟩:=slot b _ e1 hb
  exact ⟨sl2,e2⟩
 ·obtain ⟨o2,e2⟩:=U.there b o q hx
  by_cases hb:b ∈ frs l
  ·obtain ⟨sl,e3⟩:=slot b o2 e2 hb
   exact ⟨_,e3⟩
  ·obtain ⟨o',hB⟩:=cov b o q hb
   exact ⟨o2,same b o2 o' e2 hB⟩
 ·refine (hok a o q).stay (fun c v hc r => ?_) (fun _ r => r) fun _ _ r => r
  have hT:∃ o1,H' c = some o1:=by
   rcases hc with rfl | hc
   ·exact ⟨_,q⟩
   ·exact ⟨_,hc⟩
  obtain ⟨o1,h1⟩:=hT
  obtain ⟨o',hB⟩:=covT c o1 h1
  exact same c v o' r hB
section
variable {X:Cx} {pins:List (Addr × Obj)} {σ:L2.St} {H H':Hp} {e t C:Addr} {B:Heap} {s s3:Shared} {ev:Value} {E:Value → Shared → Prop}
theorem Hel.slots {h':Heap} (c:Hel X pins σ H' e t C B s) (hl:Heap.HeldW B X.stack e (.ref C) (.ref t) X.env.locals h') (up:s.heap.UpToSlots h'):Hel X pins σ H' e t C B { s with heap:=h' }:=by
 obtain ⟨H0,s0,I,hos,U,cov⟩:=c.org
 obtain ⟨U',hk⟩:=un_held U c.hok c.held.1 c.held.2.2.1 hl.1 up cov c.cov
 exact ⟨⟨H0,s0,I,hos,U',cov⟩,c.bare,hk,hl,c.cov⟩
end
theorem hel_xe {P:Program} {w:World} {K:PySem.W.Frag} {mg:Str → Option Value} {base:Heap} {N:List Str} {qual:Str} {scope:Scope} {f:Addr} {cd:Value} {A:Around} {outer:List Env} {s:Shared} {H:Hp} {E:XK}
  {pins:List (Addr × Obj)} {σ:L2.St} {H':Hp} {s3:Shared} {e t C:Addr} {B:Heap}
  (c:Hel (cxOf (CX1 P w) P w K mg base N qual scope f cd A outer s H E) pins σ H' e t C B s3) (hE:E (.ref C) none H') :
  (cxOf (CX1 P w) P w K mg base N qual scope f cd A outer s H E).xe (.ref e) s3:=by
 obtain ⟨H2,s2,I,hos,U2,cov⟩:=c.org
 have hh:Heap.HeldW B (envOfC qual scope s.heap.objs.size f cd :: outer) e (.ref C) (.ref t) s.heap.objs.size s3.heap:=c.held
 have covT:=c.cov
 have hok:=c.hok
 show wpAny _ _ (leaving _ (.ref e)) _ _ _
 unfold leaving
 refine wpAny_bind (wpAny_noteFrame_againW rfl hh.2.2.2 ?_)
 refine wpAny_landsW hh fun h'' fl up => ?_
 have U:=I.base
 have nl:∀ b o,s.heap.get? b = some o → b ∉ frs outer → b ∉ frs (envOfC qual scope s.heap.objs.size f cd :: outer):=fun b o q nb hb => by
  rcases List.mem_cons.mp (show b ∈ s.heap.objs.size :: frs outer from hb) with z | z
  ·exact absurd (Heap.lt_size q) (by rw [z]; exact Nat.lt_irrefl _)
  ·exact nb z
 have same:∀ b o o',s3.heap.get? b = some o → B.get? b = some o' → h''.get? b = some o:=fun b o o' q1 q2 => by
  have:=hh.1 b o' q2
  rw [q1] at this
  cases this
  exact fl.1 b o q2
 have slot:∀ b o,s3.heap.get? b = some o → b ∈ frs (envOfC qual scope s.heap.objs.size f cd :: outer) → ∃ sl,h''.get? b = some { o with slots:=sl }:=fun b o q hb => by
  obtain ⟨_,o',ho',hnr⟩:=hh.2.2.1.mem hb
  rw [q] at ho'
  cases ho'
  exact up b o q hnr
 obtain ⟨k1,k2,⟨_,_,k3⟩,k4⟩:=fl
 refine ⟨e,t,C,H',B,rfl,hos.trans I.os,c.bare,⟨fun b o q n nb _ => ?_,fun b o q n hb _ => ?_,fun b o q n _ => ?_,fun b o q _ => ?_,fun b xs q => U2.tups b xs (U.tups b xs q),fun b o u q => U2.frzs b o u (U.frzs b o u q),fun b ps q => ?_⟩,fun a o q => ?_,hE,⟨k1,k2,k3,k4⟩,fun b o q nb => ?_,covT⟩
 ·have q1:=U.keep b o q n nb (fun z => nomatch z)
  have n1:=U.free b o q n (fun z => nomatch z)
  have nl1:=nl b o q nb
  obtain ⟨o',hB⟩:=cov b o q1 nl1
  exact same b o o' (U2.keep b o q1 n1 nl1 (fun z => nomatch z)) hB
 ·obtain ⟨sl,e1⟩:=U.slot b o q n hb (fun z => nomatch z)
  have n1:=U.free b o q n (fun z => nomatch z)
  obtain ⟨sl2,e2⟩:=U2.slot b _ e1 n1 (List.mem_cons_of_mem _ hb) (fun z => nomatch z)
  obtain ⟨sl3,e3⟩:=slot b _ e2 (List.mem_cons_of_mem _ hb)
  exact ⟨sl3,e3⟩
 ·have n1:=U.free b o q n (fun z => nomatch z)
  obtain ⟨o1,e1⟩:=U.there b o q (fun z => nomatch z)
  exact U2.free b o1 e1 n1 (fun z => nomatch z)
 ·obtain ⟨o1,e1⟩:=U.there b o q (fun z => nomatch z)
  obtain ⟨o2,e2⟩:=U2.there b o1 e1 (fun z => nomatch z)
  by_cases hb:b ∈ frs (envOfC qual scope s.heap.objs.size f cd :: outer)
  ·obtain ⟨sl,e3⟩:=slot b o2 e2 hb
   exact ⟨_,e3⟩
  ·obtain ⟨o',hB⟩:=cov b o1 e1 hb
   exact ⟨o2,same b o2 o' e2 hB⟩
 ·obtain ⟨m1,e1⟩:=U.tbls b ps q
  obtain ⟨m2,e2⟩:=U2.tbls b _ e1
  exact ⟨m1 ++ m2,by rw [e2,Array.append_assoc]⟩
 ·refine (hok a o q).stay (fun c v hc r => ?_) (fun _ r => r) fun _ _ r => r
  have hT:∃ o1,H' c = some o1:=by
   rcases hc with rfl | hc
   ·exact ⟨_,q⟩
   ·exact ⟨_,hc⟩
  obtain ⟨o1,h1⟩:=hT
  obtain ⟨o',hB⟩:=covT c o1 h1
  exact same c v o' r hB
 ·obtain ⟨o1,e1⟩:=U.there b o q (fun z => nomatch z)
  exact cov b o1 e1 (nl b o q nb)
end L2
namespace Fw
open PySem
noncomputable abbrev Key:=Sum Int Str
inductive T where
 | non | bl (b:Bool) | int (i:Int) | str (x:Str)
 | lst (ts:List T) | tup (ts:List T) | dct (kts:List (Key × T)) | exc (c:Str) (t:Option Str)
inductive SV where
 | val (t:T) | cel (k:Nat) | box (xs:List (Sum T Nat))
noncomputable abbrev Store:=List (Bool × T)
noncomputable abbrev Slots:=List (Option SV)
inductive R (α:Type) where
 | ok (a:α) (μ:Store) | err (c:T) (μ:Store) | bad
noncomputable def R.bind {α β:Type} (x:R α) (f:α → Store → R β):R β:=match x with
 | .ok a μ => f a μ
 | .err c μ => .err c μ
 | .bad => .bad
@[simp] theorem R.bind_ok {α β:Type} (a:α) (μ:Store) (f:α → Store → R β):(R.ok a μ).bind f = f a μ:=(rfl)
@[simp] theorem R.bind_err {α β:Type} (c:T) (μ:Store) (f:α → Store → R β):(R.err c μ:R α).bind f = .err c μ:=(rfl)
noncomputable def R.lift {α:Type} (o:Option α) (μ:Store):R α:=match o with
 | some a => .ok a μ
 | none => .bad
@[simp] theorem R.lift_some {α:Type} (a:α) (μ:Store):R.lift (some a) μ = .ok a μ:=(rfl)
theorem R.bind_eq_ok {α β:Type} {x:R α} {f:α → Store → R β} {b:β} {μ:Store} (h:x.bind f = .ok b μ):∃ a μ1,x = .ok a μ1 ∧ f a μ1 = .ok b μ:=by
 cases x with
 | ok a μ1 => exact ⟨a,μ1,rfl,h⟩
 | err c μ1 => cases h
 | bad => cases h
theorem R.lift_eq_ok {α:Type} {o:Option α} {μ μ':Store} {a:α} (h:R.lift o μ = .ok a μ'):o = some a ∧ μ = μ':=by
 cases o with
 | none => cases h
 | some x => cases h; exact ⟨rfl,rfl⟩
noncomputable def R.calm {α:Type}:R α → R α
 | .ok a μ => .ok a μ
 | _ => .bad
@[simp] theorem R.calm_ok {α:Type} (a:α) (μ:Store):(R.ok a μ).calm = .ok a μ:=(rfl)
theorem R.calm_eq {α:Type} {r:R α} {a:α} {μ:Store} (h:r.calm = .ok a μ):r = .ok a μ:=by
 cases r with
 | ok b ν => exact h
 | err c ν => cases h
 | bad => cases h
noncomputable abbrev D:=Slots → Store → R SV
noncomputable def szL:Nat:=16777216
noncomputable def rd (μ:Store):SV → Option T
 | .val t => some t
 | .cel k => (μ[k]?).map (·.2)
 | .box _ => none
@[simp] theorem rd_val (μ:Store) (t:T):rd μ (.val t) = some t:=(rfl)
noncomputable def frz1 (x:Sum T Nat) (μ:Store):R T:=match x with
 | .inl t => .ok t μ
 | .inr k => match μ[k]? with
  | some (_,t) => .ok t (μ.set k (false,t))
  | none => .bad
noncomputable def frz1s:List (Sum T Nat) → Store → R (List T)
 | [],μ => .ok [] μ
 | x :: xs,μ => (frz1 x μ).bind fun t μ1 => (frz1s xs μ1).bind fun ts μ2 => .ok (t :: ts) μ2
noncomputable def frz (sv:SV) (μ:Store):R T:=match sv with
 | .val t => .ok t μ
 | .cel k => match μ[k]? with
  | some (_,t) => .ok t (μ.set k (false,t))
  | none => .bad
 | .box xs => (frz1s xs μ).bind fun ts μ1 => .ok (.tup ts) μ1
@[simp] theorem frz_val (μ:Store) (t:T):frz (.val t) μ = .ok t μ:=(rfl)
noncomputable def frzs:List SV → Store → R (List T)
 | [],μ => .ok [] μ
 | x :: xs,μ => (frz x μ).bind fun t μ1 => (frzs xs μ1).bind fun ts μ2 => .ok (t :: ts) μ2
@[simp] theorem frzs_nil (μ:Store):frzs [] μ = .ok [] μ:=(rfl)
@[simp] theorem frzs_cons (x:SV) (xs:List SV) (μ:Store):frzs (x :: xs) μ = (frz x μ).bind fun t μ1 => (frzs xs μ1).bind fun ts μ2 => .ok (t :: ts) μ2:=(rfl)
theorem frz1_no (x:Sum T Nat) (μ:Store) (c:T) (μ':Store):frz1 x μ ≠ .err c μ':=by
 cases x with
 | inl t => intro h; cases h
 | inr k =>
  unfold frz1
  cases q:μ[k]? with
  | none => simp [q]
  | some p => simp [q]
theorem frz1s_no:∀ (xs:List (Sum T Nat)) (μ:Store) (c:T) (μ':Store),frz1s xs μ ≠ .err c μ'
 | [],μ,c,μ' => by intro h; cases h
 | x :: xs,μ,c,μ' => by
  unfold frz1s
  cases q:frz1 x μ with
  | err d μ1 => exact absurd q (frz1_no x μ d μ1)
  | bad => intro h; cases h
  | ok t μ1 =>
   rw [R.bind_ok]
   cases q2:frz1s xs μ1 with
   | err d μ2 => exact absurd q2 (frz1s_no xs μ1 d μ2)
   | bad => intro h; cases h
   | ok ts μ2 => intro h; cases h
theorem frz_no (x:SV) (μ:Store) (c:T) (μ':Store):frz x μ ≠ .err c μ':=by
 cases x with
 | val t => intro h; cases h
 | cel k =>
  unfold frz
  cases q:μ[k]? with
  | none => simp [q]
  | some p => simp [q]
 | box xs =>
  show (frz1s xs μ).bind _ ≠ _
  cases q:frz1s xs μ with
  | err d μ1 => exact absurd q (frz1s_no xs μ d μ1)
  | bad => intro h; cases h
  | ok t μ1 => intro h; cases h
theorem frzs_no:∀ (xs:List SV) (μ:Store) (c:T) (μ':Store),frzs xs μ ≠ .err c μ'
 | [],μ,c,μ' => by intro h; cases h
 | x :: xs,μ,c,μ' => by
  rw [frzs_cons]
  cases q:frz x μ with
  | err d μ1 => exact absurd q (frz_no x μ d μ1)
  | bad => intro h; cases h
  | ok t μ1 =>
   rw [R.bind_ok]
   cases q2:frzs xs μ1 with
   | err d μ2 => exact absurd q2 (frzs_no xs μ1 d μ2)
   | bad => intro h; cases h
   | ok ts μ2 => intro h; cases h
noncomputable def slot (e:Slots) (i:Nat):Option SV:=match e[i]? with
 | some (some sv) => some sv
 | _ => none
@[simp] theorem slot_zero (x:SV) (e:Slots):slot (some x :: e) 0 = some x:=(rfl)
@[simp] theorem slot_none (e:Slots):slot (none :: e) 0 = none:=(rfl)
@[simp] theorem slot_succ (x:Option SV) (e:Slots) (i:Nat):slot (x :: e) (i + 1) = slot e i:=(rfl)
noncomputable def dVar (i:Nat):D:=fun e μ => R.lift (slot e i) μ
@[simp] theorem dVar_is (i:Nat) (e:Slots) (μ:Store):dVar i e μ = R.lift (slot e i) μ:=(rfl)
noncomputable def dC (t:T):D:=fun _ μ => .ok (.val t) μ
@[simp] theorem dC_is (t:T) (e:Slots) (μ:Store):dC t e μ = .ok (.val t) μ:=(rfl)
noncomputable def ap1 (f:T → Option T):Option T → Option SV
 | some t => (f t).map SV.val
 | none => none
noncomputable def ap2 (f:T → T → Option T):Option T → Option T → Option SV
 | some t,some u => (f t u).map SV.val
 | _,_ => none
@[simp] theorem ap1_some (f:T → Option T) (t:T):ap1 f (some t) = (f t).map SV.val:=(rfl)
@[simp] theorem ap2_some (f:T → T → Option T) (t u:T):ap2 f (some t) (some u) = (f t u).map SV.val:=(rfl)
theorem ap1_eq {f:T → Option T} {o:Option T} {w:SV} (h:ap1 f o = some w):∃ t u,o = some t ∧ f t = some u ∧ w = .val u:=by
 cases o with
 | none => cases h
 | some t =>
  obtain ⟨u,h1,rfl⟩:=Option.map_eq_some_iff.mp (show (f t).map SV.val = some w from h)
  exact ⟨t,u,rfl,h1,rfl⟩
theorem ap2_eq {f:T → T → Option T} {o p:Option T} {w:SV} (h:ap2 f o p = some w):∃ t u v,o = some t ∧ p = some u ∧ f t u = some v ∧ w = .val v:=by
 cases o with
 | none => cases p <;> cases h
 | some t =>
  cases p with
  | none => cases h
  | some u =>
   obtain ⟨v,h1,rfl⟩:=Option.map_eq_some_iff.mp (show (f t u).map SV.val = some w from h)
   exact ⟨t,u,v,rfl,rfl,h1,rfl⟩
noncomputable def dUn (f:T → Option T) (a:D):D:=fun e μ => (a e μ).bind fun x μ1 => R.lift (ap1 f (rd μ1 x)) μ1
@[simp] theorem dUn_is (f:T → Option T) (a:D) (e:Slots) (μ:Store):dUn f a e μ = (a e μ).bind fun x μ1 => R.lift (ap1 f (rd μ1 x)) μ1:=(rfl)
noncomputable def dBin (f:T → T → Option T) (a b:D):D:=fun e μ => (a e μ).bind fun x μ1 => (b e μ1).bind fun y μ2 => R.lift (ap2 f (rd μ2 x) (rd μ2 y)) μ2
@[simp] theorem dBin_is (f:T → T → Option T) (a b:D) (e:Slots) (μ:Store):dBin f a b e μ = (a e μ).bind fun x μ1 => (b e μ1).bind fun y μ2 => R.lift (ap2 f (rd μ2 x) (rd μ2 y)) μ2:=(rfl)
noncomputable def asB:SV → Option Bool
 | .val (.bl b) => some b
 | _ => none
@[simp] theorem asB_bl (b:Bool):asB (.val (.bl b)) = some b:=(rfl)
noncomputable def dAnd (a b:D):D:=fun e μ => (a e μ).bind fun x μ1 => (R.lift (asB x) μ1).bind fun k μ1 => if k = true then b e μ1 else .ok (.val (.bl false)) μ1
noncomputable def dOr (a b:D):D:=fun e μ => (a e μ).bind fun x μ1 => (R.lift (asB x) μ1).bind fun k μ1 => if k = true then .ok (.val (.bl true)) μ1 else b e μ1
noncomputable def dNot (a:D):D:=fun e μ => (a e μ).bind fun x μ1 => (R.lift (asB x) μ1).bind fun k μ1 => .ok (.val (.bl (!k))) μ1
noncomputable def dIfx (c a b:D):D:=fun e μ => (c e μ).bind fun x μ1 => (R.lift (asB x) μ1).bind fun k μ1 => if k = true then a e μ1 else b e μ1
@[simp] theorem dAnd_is (a b:D) (e:Slots) (μ:Store):dAnd a b e μ = (a e μ).bind fun x μ1 => (R.lift (asB x) μ1).bind fun k μ1 => if k = true then b e μ1 else .ok (.val (.bl false)) μ1:=(rfl)
@[simp] theorem dOr_is (a b:D) (e:Slots) (μ:Store):dOr a b e μ = (a e μ).bind fun x μ1 => (R.lift (asB x) μ1).bind fun k μ1 => if k = true then .ok (.val (.bl true)) μ1 else b e μ1:=(rfl)
@[simp] theorem dNot_is (a:D) (e:Slots) (μ:Store):dNot a e μ = (a e μ).bind fun x μ1 => (R.lift (asB x) μ1).bind fun k μ1 => .ok (.val (.bl (!k))) μ1:=(rfl)
@[simp] theorem dIfx_is (c a b:D) (e:Slots) (μ:Store):dIfx c a b e μ = (c e μ).bind fun x μ1 => (R.lift (asB x) μ1).bind fun k μ1 => if k = true then a e μ1 else b e μ1:=(rfl)
noncomputable def dArgs:List D → Slots → Store → R (List SV)
 | [],_,μ => .ok [] μ
 | d :: ds,e,μ => (d e μ).bind fun x μ1 => (dArgs ds e μ1).bind fun xs μ2 => .ok (x :: xs) μ2
@[simp] theorem dArgs_nil (e:Slots) (μ:Store):dArgs [] e μ = .ok [] μ:=(rfl)
@[simp] theorem dArgs_cons (d:D) (ds:List D) (e:Slots) (μ:Store):dArgs (d :: ds) e μ = (d e μ).bind fun x μ1 => (dArgs ds e μ1).bind fun xs μ2 => .ok (x :: xs) μ2:=(rfl)
noncomputable def dTup (ds:List D):D:=fun e μ => (dArgs ds e μ).bind fun xs μ1 => (frzs xs μ1).bind fun ts μ2 => .ok (.val (.tup ts)) μ2
noncomputable def dLst (ds:List D):D:=fun e μ => (dArgs ds e μ).bind fun xs μ1 => (frzs xs μ1).bind fun ts μ2 => .ok (.val (.lst ts)) μ2
@[simp] theorem dTup_is (ds:List D) (e:Slots) (μ:Store):dTup ds e μ = (dArgs ds e μ).bind fun xs μ1 => (frzs xs μ1).bind fun ts μ2 => .ok (.val (.tup ts)) μ2:=(rfl)
@[simp] theorem dLst_is (ds:List D) (e:Slots) (μ:Store):dLst ds e μ = (dArgs ds e μ).bind fun xs μ1 => (frzs xs μ1).bind fun ts μ2 => .ok (.val (.lst ts)) μ2:=(rfl)
noncomputable def boxed:List SV → Option (List (Sum T Nat))
 | [] => some []
 | .val t :: xs => (boxed xs).map fun ys => .inl t :: ys
 | .cel k :: xs => (boxed xs).map fun ys => .inr k :: ys
 | .box _ :: _ => none
noncomputable def dBox (ds:List D):D:=fun e μ => (dArgs ds e μ).bind fun xs μ1 => (R.lift (boxed xs) μ1).bind fun ys μ1 => .ok (.box ys) μ1
@[simp] theorem dBox_is (ds:List D) (e:Slots) (μ:Store):dBox ds e μ = (dArgs ds e μ).bind fun xs μ1 => (R.lift (boxed xs) μ1).bind fun ys μ1 => .ok (.box ys) μ1:=(rfl)
noncomputable def cell (t:T) (μ:Store):R SV:=.ok (.cel μ.length) (μ ++ [(true,t)])
noncomputable def dCell (d:D):D:=fun e μ => (d e μ).bind fun x μ1 => match x with
 | .val t => cell t μ1
 | .cel k => .ok (.cel k) μ1
 | .box xs => .ok (.box xs) μ1
noncomputable def toCell (x:SV) (μ:Store):R SV:=match x with
 | .val t => cell t μ
 | .cel k => .ok (.cel k) μ
 | .box xs => .ok (.box xs) μ
@[simp] theorem toCell_val (t:T) (μ:Store):toCell (.val t) μ = .ok (.cel μ.length) (μ ++ [(true,t)]):=(rfl)
@[simp] theorem dCell_is (d:D) (e:Slots) (μ:Store):dCell d e μ = (d e μ).bind toCell:=by
 unfold dCell toCell; rfl
noncomputable abbrev FN:=List SV → Store → R SV
noncomputable def dCall (f:FN) (ds:List D):D:=fun e μ => (dArgs ds e μ).bind fun xs μ1 => f xs μ1
@[simp] theorem dCall_is (f:FN) (ds:List D) (e:Slots) (μ:Store):dCall f ds e μ = (dArgs ds e μ).bind fun xs μ1 => f xs μ1:=(rfl)
noncomputable def cal (f:FN):FN:=fun xs μ => (f xs μ).calm
@[simp] theorem cal_is (f:FN) (xs:List SV) (μ:Store):cal f xs μ = (f xs μ).calm:=(rfl)
noncomputable def ixN (n:Nat) (i:Int):Option Nat:=if 0 ≤ i then (if i < n then some i.toNat else none) else if -(n:Int) ≤ i then some (i + n).toNat else none
noncomputable def atI {α:Type} (xs:List α) (i:Int):Option α:=(ixN xs.length i).bind fun j => xs[j]?
noncomputable def sIx (n d:Nat):Option Int → Nat
 | none => d
 | some v => if v < 0 then (v + (n:Int)).toNat else min v.toNat n
noncomputable def fAdd:T → T → Option T
 | .int i,.int j => some (.int (i + j))
 | .str x,.str y => if x.length + y.length ≤ szL then some (.str (x ++ y)) else none
 | .tup xs,.tup ys => if xs.length + ys.length ≤ szL then some (.tup (xs ++ ys)) else none
 | .lst xs,.lst ys => if xs.length + ys.length ≤ szL then some (.lst (xs ++ ys)) else none
 | _,_ => none
theorem fAdd_lst (xs ys:List T) (h:xs.length + ys.length ≤ szL):fAdd (.lst xs) (.lst ys) = some (.lst (xs ++ ys)):=if_pos h
theorem fAdd_str (x y:Str) (h:x.length + y.length ≤ szL):fAdd (.str x) (.str y) = some (.str (x ++ y)):=if_pos h
@[simp] theorem fAdd_int (i j:Int):fAdd (.int i) (.int j) = some (.int (i + j)):=(rfl)
noncomputable def fSub:T → T → Option T
 | .int i,.int j => some (.int (i - j))
 | _,_ => none
@[simp] theorem fSub_int (i j:Int):fSub (.int i) (.int j) = some (.int (i - j)):=(rfl)
noncomputable def fMul:T → T → Option T
 | .int i,.int j => if (-(2 ^ 64) < i ∧ i < 2 ^ 64) ∨ (-(2 ^ 64) < j ∧ j < 2 ^ 64) then some (.int (i * j)) else none
 | _,_ => none
noncomputable def fMulA (t u:T):Option T:=fMul t u
theorem fMul_l (i j:Int) (h1:-18446744073709551616 < i) (h2:i < 18446744073709551616):fMul (.int i) (.int j) = some (.int (i * j)):=if_pos (.inl ⟨h1,h2⟩)
theorem fMul_r (i j:Int) (h1:-18446744073709551616 < j) (h2:j < 18446744073709551616):fMul (.int i) (.int j) = some (.int (i * j)):=if_pos (.inr ⟨h1,h2⟩)
@[simp] theorem fMulA_l (i j:Int) (h1:-18446744073709551616 < i) (h2:i < 18446744073709551616):fMulA (.int i) (.int j) = some (.int (i * j)):=fMul_l i j h1 h2
@[simp] theorem fMulA_r (i j:Int) (h1:-18446744073709551616 < j) (h2:j < 18446744073709551616):fMulA (.int i) (.int j) = some (.int (i * j)):=fMul_r i j h1 h2
noncomputable def fMod:T → T → Option T
 | .int i,.int j => if 0 < j then some (.int (i % j)) else none
 | _,_ => none
@[simp] theorem fMod_int (i j:Int) (h:0 < j):fMod (.int i) (.int j) = some (.int (i % j)):=if_pos h
noncomputable def fDiv:T → T → Option T
 | .int i,.int j => if 0 < j ∧ j < 1073741824 then some (.int (i / j)) else none
 | _,_ => none
@[simp] theorem fDiv_int (i j:Int) (h:0 < j) (h2:j < 1073741824):fDiv (.int i) (.int j) = some (.int (i / j)):=if_pos ⟨h,h2⟩
noncomputable def fPow:T → T → Option T
 | .int i,.int j => if 0 ≤ j ∧ j ≤ 1000 ∧ -(2 ^ 64) < i ∧ i < 2 ^ 64 then some (.int (i ^ j.toNat)) else none
 | _,_ => none
noncomputable def fNeg:T → Option T
 | .int i => some (.int (-i))
 | _ => none
@[simp] theorem fNeg_int (i:Int):fNeg (.int i) = some (.int (-i)):=(rfl)
noncomputable def fLt:T → T → Option T
 | .int i,.int j => some (.bl (decide (i < j)))
 | _,_ => none
noncomputable def fLe:T → T → Option T
 | .int i,.int j => some (.bl (decide (i ≤ j)))
 | _,_ => none
noncomputable def fGt:T → T → Option T
 | .int i,.int j => some (.bl (decide (j < i)))
 | _,_ => none
noncomputable def fGe:T → T → Option T
 | .int i,.int j => some (.bl (decide (j ≤ i)))
 | _,_ => none
@[simp] theorem fLt_int (i j:Int):fLt (.int i) (.int j) = some (.bl (decide (i < j))):=(rfl)
@[simp] theorem fLe_int (i j:Int):fLe (.int i) (.int j) = some (.bl (decide (i ≤ j))):=(rfl)
@[simp] theorem fGt_int (i j:Int):fGt (.int i) (.int j) = some (.bl (decide (j < i))):=(rfl)
@[simp] theorem fGe_int (i j:Int):fGe (.int i) (.int j) = some (.bl (decide (j ≤ i))):=(rfl)
mutual
noncomputable def eqT:T → T → Bool
 | .non,.non => true
 | .bl a,.bl b => a == b
 | .bl a,.int b => (if a then 1 else 0) == b
 | .int a,.bl b => a == (if b then 1 else 0)
 | .int a,.int b => a == b
 | .str a,.str b => a == b
 | .lst a,.lst b => eqTs a b
 | .tup a,.tup b => eqTs a b
 | _,_ => false
noncomputable def eqTs:List T → List T → Bool
 | [],[] => true
 | a :: as,b :: bs => eqT a b && eqTs as bs
 | [],_ :: _ => false
 | _ :: _,[] => false
end
mutual
noncomputable def okT:Nat → T → Bool
 | _,.non => true
 | _,.bl _ => true
 | _,.int _ => true
 | _,.str x => x.cps.all (· < 1114112)
 | 0,.lst _ => false
 | n + 1,.lst ts => okTs n ts
 | 0,.tup _ => false
 | n + 1,.tup ts => okTs n ts
 | _,.dct _ => false
 | _,.exc _ _ => false
noncomputable def okTs:Nat → List T → Bool
 | _,[] => true
 | n,t :: ts => okT n t && okTs n ts
end
noncomputable def fEq (t u:T):Option T:=match t,u with
 | .str a,.str b => some (.bl (a == b))
 | t,u => if okT 100 t = true ∧ okT 100 u = true then some (.bl (eqT t u)) else none
noncomputable def fNe (t u:T):Option T:=match t,u with
 | .str a,.str b => some (.bl (!(a == b)))
 | t,u => if okT 100 t = true ∧ okT 100 u = true then some (.bl (!eqT t u)) else none
@[simp] theorem okT_int (n:Nat) (i:Int):okT n (.int i) = true:=by unfold okT; rfl
@[simp] theorem okT_bl (n:Nat) (i:Bool):okT n (.bl i) = true:=by unfold okT; rfl
@[simp] theorem okT_non (n:Nat):okT n .non = true:=by unfold okT; rfl
@[simp] theorem okT_lst (n:Nat) (ts:List T):okT (n + 1) (.lst ts) = okTs n ts:=by rw [okT]
@[simp] theorem okT_tup (n:Nat) (ts:List T):okT (n + 1) (.tup ts) = okTs n ts:=by rw [okT]
@[simp] theorem okTs_nil (n:Nat):okTs n [] = true:=by rw [okTs]
@[simp] theorem okTs_cons (n:Nat) (t:T) (ts:List T):okTs n (t :: ts) = (okT n t && okTs n ts):=by rw [okTs]
theorem okTs_iff (n:Nat):∀ ts:List T,okTs n ts = true ↔ ∀ t ∈ ts,okT n t = true
 | [] => by simp
 | t :: ts => by simp [okTs_iff n ts]
@[simp] theorem okTs_ints (n:Nat) (ns:List Int):okTs n (ns.map T.int) = true:=by
 rw [okTs_iff]
 intro t ht
 obtain ⟨i,_,rfl⟩:=List.mem_map.mp ht
 simp
@[simp] theorem eqT_int (i j:Int):eqT (.int i) (.int j) = (i == j):=by rw [eqT]
@[simp] theorem eqT_str (i j:Str):eqT (.str i) (.str j) = (i == j):=by rw [eqT]
@[simp] theorem eqT_bl (i j:Bool):eqT (.bl i) (.bl j) = (i == j):=by rw [eqT]
@[simp] theorem eqT_non:eqT .non .non = true:=by rw [eqT]
@[simp] theorem eqT_lst (i j:List T):eqT (.lst i) (.lst j) = eqTs i j:=by rw [eqT]
@[simp] theorem eqT_tup (i j:List T):eqT (.tup i) (.tup j) = eqTs i j:=by rw [eqT]
@[simp] theorem eqTs_nil:eqTs [] [] = true:=by rw [eqTs]
@[simp] theorem eqTs_cons (a b:T) (as bs:List T):eqTs (a :: as) (b :: bs) = (eqT a b && eqTs as bs):=by rw [eqTs]
@[simp] theorem eqTs_nc (b:T) (bs:List T):eqTs [] (b :: bs) = false:=by rw [eqTs]
@[simp] theorem eqTs_cn (b:T) (bs:List T):eqTs (b :: bs) [] = false:=by rw [eqTs]
mutual
theorem eqT_refl:∀ (n:Nat) (t:T),okT n t = true → eqT t t = true
 | n,.non,_ => by simp
 | n,.bl b,_ => by simp
 | n,.int i,_ => by simp
 | n,.str x,_ => by simp
 | 0,.lst ts,h => by rw [okT] at h; cases h
 | n + 1,.lst ts,h => by simp only [eqT_lst]; exact eqTs_refl n ts (by simpa using h)
 | 0,.tup ts,h => by rw [okT] at h; cases h
 | n + 1,.tup ts,h => by simp only [eqT_tup]; exact eqTs_refl n ts (by simpa using h)
 | n,.dct _,h => by unfold okT at h; cases h
 | n,.exc _ _,h => by unfold okT at h; cases h
theorem eqTs_refl:∀ (n:Nat) (ts:List T),okTs n ts = true → eqTs ts ts = true
 | n,[],_ => by simp
 | n,t :: ts,h => by
  simp only [okTs_cons,Bool.and_eq_true] at h
  simp [eqT_refl n t h.1,eqTs_refl n ts h.2]
end
theorem eqTs_ints:∀ (xs ys:List Int),eqTs (xs.map T.int) (ys.map T.int) = (xs == ys)
 | [],[] => by simp
 | [],y :: ys => by simp
 | x :: xs,[] => by simp
 | x :: xs,y :: ys => by simp [eqTs_ints xs ys]
theorem fEq_ok {t u:T} (h1:okT 100 t = true) (h2:okT 100 u = true):fEq t u = some (.bl (eqT t u)):=by
 unfold fEq
 split
 ·simp
 ·rw [if_pos ⟨h1,h2⟩]
theorem fNe_ok {t u:T} (h1:okT 100 t = true) (h2:okT 100 u = true):fNe t u = some (.bl (!eqT t u)):=by
 unfold fNe
 split
 ·simp
 ·rw [if_pos ⟨h1,h2⟩]
@[simp] theorem fEq_int (i j:Int):fEq (.int i) (.int j) = some (.bl (i == j)):=by rw [fEq_ok (by simp) (by simp)]; simp
@[simp] theorem fNe_int (i j:Int):fNe (.int i) (.int j) = some (.bl (!(i == j))):=by rw [fNe_ok (by simp) (by simp)]; simp
@[simp] theorem fEq_str (i j:Str):fEq (.str i) (.str j) = some (.bl (i == j)):=(rfl)
@[simp] theorem fNe_str (i j:Str):fNe (.str i) (.str j) = some (.bl (!(i == j))):=(rfl)
@[simp] theorem fEq_ints (xs ys:List Int):fEq (.lst (xs.map T.int)) (.lst (ys.map T.int)) = some (.bl (xs == ys)):=by rw [fEq_ok (by simp) (by simp)]; simp [eqTs_ints]
@[simp] theorem fNe_ints (xs ys:List Int):fNe (.lst (xs.map T.int)) (.lst (ys.map T.int)) = some (.bl (!(xs == ys))):=by rw [fNe_ok (by simp) (by simp)]; simp [eqTs_ints]
noncomputable def isNon:T → Option T
 | .non => some (.bl true)
 | _ => some (.bl false)
noncomputable def fIdx:T → T → Option T
 | .lst xs,.int i => atI xs i
 | .tup xs,.int i => atI xs i
 | .str x,.int i => if x.length ≤ szL then (atI x.cps.toList i).map fun c => .str ⟨#[c]⟩ else none
 | _,_ => none
noncomputable def pick:Sum T Nat → SV
 | .inl t => .val t
 | .inr k => .cel k
noncomputable def idxS (μ:Store) (x:SV) (u:T):Option SV:=match x,u with
 | .box xs,.int i => (atI xs i).map pick
 | .box _,_ => none
 | x,u => ap1 (fun t => fIdx t u) (rd μ x)
noncomputable def dIdx (a b:D):D:=fun e μ => (a e μ).bind fun x μ1 => (b e μ1).bind fun y μ2 => R.lift ((rd μ2 y).bind fun u => idxS μ2 x u) μ2
@[simp] theorem dIdx_is (a b:D) (e:Slots) (μ:Store):dIdx a b e μ = (a e μ).bind fun x μ1 => (b e μ1).bind fun y μ2 => R.lift ((rd μ2 y).bind fun u => idxS μ2 x u) μ2:=(rfl)
@[simp] theorem idxS_lst (μ:Store) (xs:List T) (i:Int):idxS μ (.val (.lst xs)) (.int i) = (atI xs i).map SV.val:=(rfl)
@[simp] theorem idxS_tup (μ:Store) (xs:List T) (i:Int):idxS μ (.val (.tup xs)) (.int i) = (atI xs i).map SV.val:=(rfl)
@[simp] theorem idxS_box (μ:Store) (xs:List (Sum T Nat)) (i:Int):idxS μ (.box xs) (.int i) = (atI xs i).map pick:=(rfl)
@[simp] theorem idxS_cel (μ:Store) (k:Nat) (u:T):idxS μ (.cel k) u = ap1 (fun t => fIdx t u) (rd μ (.cel k)):=(rfl)
noncomputable def fLen:T → Option T
 | .lst xs => some (.int xs.length)
 | .tup xs => some (.int xs.length)
 | .str x => if x.length ≤ szL then some (.int x.length) else none
 | .dct kts => some (.int kts.length)
 | _ => none
noncomputable def lenS (μ:Store):SV → Option T
 | .box xs => some (.int xs.length)
 | x => (rd μ x).bind fLen
noncomputable def dLen (a:D):D:=fun e μ => (a e μ).bind fun x μ1 => R.lift ((lenS μ1 x).map SV.val) μ1
@[simp] theorem dLen_is (a:D) (e:Slots) (μ:Store):dLen a e μ = (a e μ).bind fun x μ1 => R.lift ((lenS μ1 x).map SV.val) μ1:=(rfl)
@[simp] theorem lenS_lst (μ:Store) (xs:List T):lenS μ (.val (.lst xs)) = some (.int xs.length):=(rfl)
@[simp] theorem lenS_tup (μ:Store) (xs:List T):lenS μ (.val (.tup xs)) = some (.int xs.length):=(rfl)
@[simp] theorem lenS_cel (μ:Store) (k:Nat):lenS μ (.cel k) = (rd μ (.cel k)).bind fLen:=(rfl)
inductive Kd where
 | int | bool | str | list | tuple | dict
noncomputable def isK:Kd → T → Bool
 | .int,.int _ => true
 | .int,.bl _ => true
 | .bool,.bl _ => true
 | .str,.str _ => true
 | .list,.lst _ => true
 | .tuple,.tup _ => true
 | .dict,.dct _ => true
 | _,_ => false
noncomputable def isT (k:Kd):T → Option T
 | .exc _ _ => none
 | t => some (.bl (isK k t))
noncomputable def isS (k:Kd) (μ:Store):SV → Option T
 | .box _ => some (.bl (isK k (.tup [])))
 | x => (rd μ x).bind (isT k)
@[simp] theorem isT_int (k:Kd) (i:Int):isT k (.int i) = some (.bl (isK k (.int i))):=(rfl)
@[simp] theorem isT_str (k:Kd) (i:Str):isT k (.str i) = some (.bl (isK k (.str i))):=(rfl)
@[simp] theorem isT_tup (k:Kd) (i:List T):isT k (.tup i) = some (.bl (isK k (.tup i))):=(rfl)
noncomputable def dIs (k:Kd) (a:D):D:=fun e μ => (a e μ).bind fun x μ1 => R.lift ((isS k μ1 x).map SV.val) μ1
@[simp] theorem dIs_is (k:Kd) (a:D) (e:Slots) (μ:Store):dIs k a e μ = (a e μ).bind fun x μ1 => R.lift ((isS k μ1 x).map SV.val) μ1:=(rfl)
@[simp] theorem isS_val (k:Kd) (μ:Store) (t:T):isS k μ (.val t) = isT k t:=(rfl)
@[simp] theorem isS_cel (k:Kd) (μ:Store) (j:Nat):isS k μ (.cel j) = (rd μ (.cel j)).bind (isT k):=(rfl)
noncomputable def fTuple:T → Option T
 | .lst xs => some (.tup xs)
 | .tup xs => some (.tup xs)
 | _ => none
@[simp] theorem fTuple_lst (xs:List T):fTuple (.lst xs) = some (.tup xs):=(rfl)
@[simp] theorem fTuple_tup (xs:List T):fTuple (.tup xs) = some (.tup xs):=(rfl)
noncomputable def fList:T → Option T
 | .lst xs => some (.lst xs)
 | .tup xs => some (.lst xs)
 | _ => none
noncomputable def keyT:Key → T
 | .inl i => .int i
 | .inr x => .str x
@[simp] theorem fList_lst (xs:List T):fList (.lst xs) = some (.lst xs):=(rfl)
noncomputable def cutT {α:Type} (xs:List α) (lo hi:Option Int):List α:=(xs.drop (sIx xs.length 0 lo)).take (sIx xs.length xs.length hi - sIx xs.length 0 lo)
noncomputable def asInt:T → Option Int
 | .int i => some i
 | _ => none
@[simp] theorem asInt_int (i:Int):asInt (.int i) = some i:=(rfl)
noncomputable def asInts:List T → Option (List Int)
 | [] => some []
 | t :: ts => (asInt t).bind fun i => (asInts ts).map fun is => i :: is
noncomputable def fSum:T → Option T
 | .lst xs => (asInts xs).map fun is => .int is.sum
 | _ => none
noncomputable def asBls:List T → Option (List Bool)
 | [] => some []
 | .bl b :: ts => (asBls ts).map fun bs => b :: bs
 | _ :: _ => none
theorem asBls_map (bs:List Bool):asBls (bs.map T.bl) = some bs:=by
 induction bs with
 | nil => rfl
 | cons n ns ih => simp [asBls,ih]
noncomputable def fAll:T → Option T
 | .lst xs => (asBls xs).map fun bs => .bl (bs.all id)
 | _ => none
@[simp] theorem fAll_bls (bs:List Bool):fAll (.lst (bs.map T.bl)) = some (.bl (bs.all id)):=by simp [fAll,asBls_map]
noncomputable def notNon:T → Option T
 | .non => some (.bl false)
 | _ => some (.bl true)
@[simp] theorem isNon_non:isNon .non = some (.bl true):=(rfl)
@[simp] theorem isNon_int (i:Int):isNon (.int i) = some (.bl false):=(rfl)
@[simp] theorem notNon_non:notNon .non = some (.bl false):=(rfl)
@[simp] theorem notNon_int (i:Int):notNon (.int i) = some (.bl true):=(rfl)
noncomputable def dChain (f g:T → T → Option T) (a b c:D):D:=fun e μ => (a e μ).bind fun x μ1 => (b e μ1).bind fun y μ2 =>
 (R.lift (ap2 f (rd μ2 x) (rd μ2 y)) μ2).bind fun w μ2 => (R.lift (asB w) μ2).bind fun k μ2 =>
 if k = true then (c e μ2).bind fun z μ3 => R.lift (ap2 g (rd μ3 y) (rd μ3 z)) μ3 else .ok (.val (.bl false)) μ2
@[simp] theorem dChain_is (f g:T → T → Option T) (a b c:D) (e:Slots) (μ:Store):dChain f g a b c e μ = (a e μ).bind fun x μ1 => (b e μ1).bind fun y μ2 =>
 (R.lift (ap2 f (rd μ2 x) (rd μ2 y)) μ2).bind fun w μ2 => (R.lift (asB w) μ2).bind fun k μ2 =>
 if k = true then (c e μ2).bind fun z μ3 => R.lift (ap2 g (rd μ3 y) (rd μ3 z)) μ3 else .ok (.val (.bl false)) μ2:=(rfl)
noncomputable def fCut (t:T) (lo hi:Option Int):Option T:=match t with
 | .lst xs => some (.lst (cutT xs lo hi))
 | .tup xs => if sIx xs.length 0 lo = 0 ∧ sIx xs.length xs.length hi = xs.length then none else some (.tup (cutT xs lo hi))
 | _ => none
noncomputable def dOpt (o:Option D) (e:Slots) (μ:Store):R (Option Int):=match o with
 | none => .ok none μ
 | some d => (d e μ).bind fun x μ1 => (R.lift ((rd μ1 x).bind asInt) μ1).bind fun i μ1 => .ok (some i) μ1
@[simp] theorem dOpt_none (e:Slots) (μ:Store):dOpt none e μ = .ok none μ:=(rfl)
@[simp] theorem dOpt_some (d:D) (e:Slots) (μ:Store):dOpt (some d) e μ = (d e μ).bind fun x μ1 => (R.lift ((rd μ1 x).bind asInt) μ1).bind fun i μ1 => .ok (some i) μ1:=(rfl)
noncomputable def dCut (a:D) (lo hi:Option D):D:=fun e μ => (a e μ).bind fun x μ1 => (dOpt lo e μ1).bind fun l μ2 => (dOpt hi e μ2).bind fun h μ3 => R.lift (ap1 (fun t => fCut t l h) (rd μ3 x)) μ3
@[simp] theorem dCut_is (a:D) (lo hi:Option D) (e:Slots) (μ:Store):dCut a lo hi e μ = (a e μ).bind fun x μ1 => (dOpt lo e μ1).bind fun l μ2 => (dOpt hi e μ2).bind fun h μ3 => R.lift (ap1 (fun t => fCut t l h) (rd μ3 x)) μ3:=(rfl)
inductive RS where
 | nx (e:Slots) (μ:Store) | rt (x:SV) (μ:Store) | bk (e:Slots) (μ:Store) | ct (e:Slots) (μ:Store) | err (c:T) (e:Slots) (μ:Store) | bad
noncomputable abbrev DS:=Slots → Store → RS
noncomputable def R.toS {α:Type} (x:R α) (e:Slots) (f:α → Store → RS):RS:=match x with
 | .ok a μ => f a μ
 | .err c μ => .err c e μ
 | .bad => .bad
@[simp] theorem R.toS_ok {α:Type} (a:α) (e:Slots) (μ:Store) (f:α → Store → RS):(R.ok a μ).toS e f = f a μ:=(rfl)
@[simp] theorem R.toS_err {α:Type} (c:T) (e:Slots) (μ:Store) (f:α → Store → RS):(R.err c μ:R α).toS e f = .err c e μ:=(rfl)
noncomputable def RS.seq (r:RS) (f:Slots → Store → RS):RS:=match r with
 | .nx e μ => f e μ
 | r => r
@[simp] theorem RS.seq_nx (e:Slots) (μ:Store) (f:Slots → Store → RS):(RS.nx e μ).seq f = f e μ:=(rfl)
@[simp] theorem RS.seq_rt (x:SV) (μ:Store) (f:Slots → Store → RS):(RS.rt x μ).seq f = .rt x μ:=(rfl)
noncomputable def sNil:DS:=fun e μ => .nx e μ
noncomputable def sSeq (a b:DS):DS:=fun e μ => (a e μ).seq b
noncomputable def sExpr (d:D):DS:=fun e μ => (d e μ).toS e fun _ μ1 => .nx e μ1
noncomputable def sSet (i:Nat) (d:D):DS:=fun e μ => (d e μ).toS e fun x μ1 => .nx (e.set i (some x)) μ1
noncomputable def sRet (d:D):DS:=fun e μ => (d e μ).toS e fun x μ1 => .rt x μ1
noncomputable def sIf (c:D) (a b:DS):DS:=fun e μ => (c e μ).toS e fun x μ1 => (R.lift (asB x) μ1).toS e fun k μ1 => if k = true then a e μ1 else b e μ1
noncomputable def sBad:DS:=fun _ _ => .bad
@[simp] theorem sNil_is (e:Slots) (μ:Store):sNil e μ = .nx e μ:=(rfl)
@[simp] theorem sSeq_is (a b:DS) (e:Slots) (μ:Store):sSeq a b e μ = (a e μ).seq b:=(rfl)
@[simp] theorem sExpr_is (d:D) (e:Slots) (μ:Store):sExpr d e μ = (d e μ).toS e fun _ μ1 => .nx e μ1:=(rfl)
@[simp] theorem sSet_is (i:Nat) (d:D) (e:Slots) (μ:Store):sSet i d e μ = (d e μ).toS e fun x μ1 => .nx (e.set i (some x)) μ1:=(rfl)
@[simp] theorem sRet_is (d:D) (e:Slots) (μ:Store):sRet d e μ = (d e μ).toS e fun x μ1 => .rt x μ1:=(rfl)
@[simp] theorem sIf_is (c:D) (a b:DS) (e:Slots) (μ:Store):sIf c a b e μ = (c e μ).toS e fun x μ1 => (R.lift (asB x) μ1).toS e fun k μ1 => if k = true then a e μ1 else b e μ1:=(rfl)
noncomputable def appendAt (x:SV) (t:T) (μ:Store):Option Store:=match x with
 | .cel k => match μ[k]? with
  | some (true,.lst ts) => if ts.length < szL then some (μ.set k (true,.lst (ts ++ [t]))) else none
  | _ => none
 | _ => none
noncomputable def lsts (x:SV) (μ:Store):Option Unit:=match x with
 | .cel k => match μ[k]? with
  | some (_,.lst _) => some ()
  | _ => none
 | _ => none
theorem lsts_at {μ:Store} {k:Nat} {b:Bool} {ts:List T} (h:μ[k]? = some (b,.lst ts)):lsts (.cel k) μ = some ():=by unfold lsts; simp only [h]
noncomputable def sAppend (o d:D):DS:=fun e μ => (o e μ).toS e fun x μ0 => (R.lift (lsts x μ0) μ0).toS e fun _ μ0 => (d e μ0).toS e fun y μ1 => (frz y μ1).toS e fun t μ2 => (R.lift (appendAt x t μ2) μ2).toS e fun μ3 _ => .nx e μ3
@[simp] theorem sAppend_is (o d:D) (e:Slots) (μ:Store):sAppend o d e μ = (o e μ).toS e fun x μ0 => (R.lift (lsts x μ0) μ0).toS e fun _ μ0 => (d e μ0).toS e fun y μ1 => (frz y μ1).toS e fun t μ2 => (R.lift (appendAt x t μ2) μ2).toS e fun μ3 _ => .nx e μ3:=(rfl)
noncomputable def setAt (x:SV) (k:T) (t:T) (μ:Store):Option Store:=match x,k with
 | .cel c,.int i => match μ[c]? with
  | some (true,.lst ts) => (ixN ts.length i).map fun j => μ.set c (true,.lst (ts.set j t))
  | _ => none
 | _,_ => none
noncomputable def sSetItem (i:Nat) (dk dv:D):DS:=fun e μ => (dv e μ).toS e fun y μ1 => (R.lift (slot e i) μ1).toS e fun x μ1 => (dk e μ1).toS e fun z μ2 => (R.lift (rd μ2 z) μ2).toS e fun k μ2 =>
 (frz y μ2).toS e fun t μ3 => (R.lift (setAt x k t μ3) μ3).toS e fun μ4 _ => .nx e μ4
@[simp] theorem sSetItem_is (i:Nat) (dk dv:D) (e:Slots) (μ:Store):sSetItem i dk dv e μ = (dv e μ).toS e fun y μ1 => (R.lift (slot e i) μ1).toS e fun x μ1 => (dk e μ1).toS e fun z μ2 => (R.lift (rd μ2 z) μ2).toS e fun k μ2 =>
 (frz y μ2).toS e fun t μ3 => (R.lift (setAt x k t μ3) μ3).toS e fun μ4 _ => .nx e μ4:=(rfl)
structure Wk where
 items:List T
 same:Store → Prop
noncomputable abbrev DI:=Slots → Store → R Wk
noncomputable def seqItems:T → Option (List T)
 | .lst ts => some ts
 | .tup ts => some ts
 | _ => none
@[simp] theorem seqItems_lst (ts:List T):seqItems (.lst ts) = some ts:=(rfl)
@[simp] theorem seqItems_tup (ts:List T):seqItems (.tup ts) = some ts:=(rfl)
noncomputable def iSeq (d:D):DI:=fun e μ => (d e μ).bind fun x μ1 => (R.lift ((rd μ1 x).bind seqItems) μ1).bind fun ts μ1 => .ok ⟨ts,fun μ' => rd μ' x = rd μ1 x⟩ μ1
@[simp] theorem iSeq_is (d:D) (e:Slots) (μ:Store):iSeq d e μ = (d e μ).bind fun x μ1 => (R.lift ((rd μ1 x).bind seqItems) μ1).bind fun ts μ1 => .ok ⟨ts,fun μ' => rd μ' x = rd μ1 x⟩ μ1:=(rfl)
noncomputable def intsT (lo:Int):Nat → List T
 | 0 => []
 | n + 1 => .int lo :: intsT (lo + 1) n
noncomputable def rngOk (j:Int):Bool:=decide (-(2 ^ 62) ≤ j) && decide (j < 2 ^ 62)
@[simp] theorem rngOk_of {j:Int} (h0:0 ≤ j) (h1:j ≤ 1000000):rngOk j = true:=by
 unfold rngOk
 rw [decide_eq_true (by lia),decide_eq_true (by lia)]; rfl
theorem rngOk_iff {j:Int} (h:rngOk j = true):-(2 ^ 62) ≤ j ∧ j < 2 ^ 62:=by
 unfold rngOk at h
 simp only [Bool.and_eq_true,decide_eq_true_eq] at h
 exact h
noncomputable def iRange1 (d:D):DI:=fun e μ => (d e μ).bind fun x μ1 => (R.lift ((rd μ1 x).bind asInt) μ1).bind fun j μ1 => if rngOk j = true then .ok ⟨intsT 0 j.toNat,fun _ => True⟩ μ1 else .bad
noncomputable def iRange2 (d d':D):DI:=fun e μ => (d e μ).bind fun x μ1 => (d' e μ1).bind fun y μ2 => (R.lift ((rd μ2 x).bind asInt) μ2).bind fun i μ2 => (R.lift ((rd μ2 y).bind asInt) μ2).bind fun j μ2 =>
 if (rngOk i && rngOk j) = true then .ok ⟨intsT i (j - i).toNat,fun _ => True⟩ μ2 else .bad
@[simp] theorem iRange1_is (d:D) (e:Slots) (μ:Store):iRange1 d e μ = (d e μ).bind fun x μ1 => (R.lift ((rd μ1 x).bind asInt) μ1).bind fun j μ1 => if rngOk j = true then .ok ⟨intsT 0 j.toNat,fun _ => True⟩ μ1 else .bad:=(rfl)
@[simp] theorem iRange2_is (d d':D) (e:Slots) (μ:Store):iRange2 d d' e μ = (d e μ).bind fun x μ1 => (d' e μ1).bind fun y μ2 => (R.lift ((rd μ2 x).bind asInt) μ2).bind fun i μ2 => (R.lift ((rd μ2 y).bind asInt) μ2).bind fun j μ2 =>
 if (rngOk i && rngOk j) = true then .ok ⟨intsT i (j - i).toNat,fun _ => True⟩ μ2 else .bad:=(rfl)
noncomputable def zipT:List T → List T → List T
 | t :: ts,u :: us => .tup [t,u] :: zipT ts us
 | _,_ => []
noncomputable def iZip (d d':D):DI:=fun e μ => (d e μ).bind fun x μ1 => (d' e μ1).bind fun y μ2 => (R.lift ((rd μ2 x).bind seqItems) μ2).bind fun ts μ2 => (R.lift ((rd μ2 y).bind seqItems) μ2).bind fun us μ2 =>
 .ok ⟨zipT ts us,fun μ' => rd μ' x = rd μ2 x ∧ rd μ' y = rd μ2 y⟩ μ2
@[simp] theorem iZip_is (d d':D) (e:Slots) (μ:Store):iZip d d' e μ = (d e μ).bind fun x μ1 => (d' e μ1).bind fun y μ2 => (R.lift ((rd μ2 x).bind seqItems) μ2).bind fun ts μ2 => (R.lift ((rd μ2 y).bind seqItems) μ2).bind fun us μ2 =>
 .ok ⟨zipT ts us,fun μ' => rd μ' x = rd μ2 x ∧ rd μ' y = rd μ2 y⟩ μ2:=(rfl)
noncomputable abbrev BD:=T → Slots → Option Slots
noncomputable def bName (i:Nat):BD:=fun t e => some (e.set i (some (.val t)))
noncomputable def bTup (is:List Nat):BD:=fun t e => match t with
 | .tup ts => if ts.length = is.length then some ((is.zip ts).foldl (fun e p => e.set p.1 (some (.val p.2))) e) else none
 | _ => none
@[simp] theorem bName_is (i:Nat) (t:T) (e:Slots):bName i t e = some (e.set i (some (.val t))):=(rfl)
@[simp] theorem bTup_pair (i j:Nat) (t u:T) (e:Slots):bTup [i,j] (.tup [t,u]) e = some ((e.set i (some (.val t))).set j (some (.val u))):=(rfl)
open Classical in
noncomputable def forL (same:Store → Prop) (b:BD) (body:DS):List T → Slots → Store → RS
 | [],e,μ => if same μ then .nx e μ else .bad
 | t :: ts,e,μ => if same μ then
   match b t e with
   | none => .bad
   | some e1 => match body e1 μ with
    | .nx e2 μ2 => forL same b body ts e2 μ2
    | .ct e2 μ2 => forL same b body ts e2 μ2
    | .bk e2 μ2 => .nx e2 μ2
    | r => r
  else .bad
noncomputable def sFor (it:DI) (b:BD) (body:DS):DS:=fun e μ => (it e μ).toS e fun W μ1 => forL W.same b body W.items e μ1
@[simp] theorem sFor_is (it:DI) (b:BD) (body:DS) (e:Slots) (μ:Store):sFor it b body e μ = (it e μ).toS e fun W μ1 => forL W.same b body W.items e μ1:=(rfl)
noncomputable def whileN (c:D) (body:DS):Nat → Slots → Store → RS
 | 0,_,_ => .bad
 | n + 1,e,μ => (c e μ).toS e fun x μ1 => (R.lift (asB x) μ1).toS e fun k μ1 => if k = true then
   match body e μ1 with
   | .nx e2 μ2 => whileN c body n e2 μ2
   | .ct e2 μ2 => whileN c body n e2 μ2
   | .bk e2 μ2 => .nx e2 μ2
   | r => r
  else .nx e μ1
open Classical in
noncomputable def sWhile (c:D) (body:DS):DS:=fun e μ => if h:∃ n,whileN c body n e μ ≠ .bad then whileN c body h.choose e μ else .bad
open Classical in
noncomputable def compL (same:Store → Prop) (b:BD) (c:D) (d:D) (e:Slots):List T → Store → R (List T)
 | [],μ => if same μ then .ok [] μ else .bad
 | t :: ts,μ => if same μ then
   match b t e with
   | none => .bad
   | some e1 => (c e1 μ).calm.bind fun x μ1 => (R.lift (asB x) μ1).bind fun k μ1 =>
    if k = true then (d e1 μ1).calm.bind fun y μ2 => (frz y μ2).bind fun u μ3 => (compL same b c d e ts μ3).bind fun us μ4 => .ok (u :: us) μ4
    else compL same b c d e ts μ1
  else .bad
noncomputable def ini (mp:List (Option Nat)) (e:Slots):Slots:=mp.map fun o => o.bind fun j => slot e j
noncomputable def dComp (it:DI) (mp:List (Option Nat)) (b:BD) (c:D) (d:D):D:=fun e μ => (it e μ).bind fun W μ1 => (compL W.same b c d (ini mp e) W.items μ1).calm.bind fun us μ2 =>
 if W.items.length ≤ szL then .ok (.val (.lst us)) μ2 else .bad
@[simp] theorem dComp_is (it:DI) (mp:List (Option Nat)) (b:BD) (c:D) (d:D) (e:Slots) (μ:Store):dComp it mp b c d e μ = (it e μ).bind fun W μ1 => (compL W.same b c d (ini mp e) W.items μ1).calm.bind fun us μ2 =>
 if W.items.length ≤ szL then .ok (.val (.lst us)) μ2 else .bad:=(rfl)
@[simp] theorem ini_nil (e:Slots):ini [] e = []:=(rfl)
@[simp] theorem ini_none (mp:List (Option Nat)) (e:Slots):ini (none :: mp) e = none :: ini mp e:=(rfl)
@[simp] theorem ini_some (j:Nat) (mp:List (Option Nat)) (e:Slots):ini (some j :: mp) e = slot e j :: ini mp e:=(rfl)
noncomputable def gc (n:Nat) (x:SV) (μ:Store):R SV:=match x with
 | .val t => .ok (.val t) (μ.take n)
 | .cel k => if k < n then .ok (.cel k) (μ.take n) else match μ[k]? with
  | some c => .ok (.cel n) (μ.take n ++ [c])
  | none => .bad
 | .box _ => .bad
noncomputable def starts (m:Nat) (xs:List SV):Slots:=xs.map some ++ List.replicate (m - xs.length) none
noncomputable def RS.endD (n:Nat):RS → R SV
 | .rt x μ' => gc n x μ'
 | .nx _ μ' => gc n (.val .non) μ'
 | .err c _ μ' => .err c (μ'.take n)
 | _ => .bad
noncomputable def fnD (m:Nat) (body:DS):FN:=fun xs μ => (body (starts m xs) μ).endD μ.length
noncomputable def ice (n:Nat) (x:SV) (μ:Store):R SV:=(frz x μ).bind fun t μ1 => .ok (.val t) (μ1.take n)
noncomputable def RS.endV (n:Nat):RS → R SV
 | .rt x μ' => ice n x μ'
 | .nx _ μ' => ice n (.val .non) μ'
 | .err c _ μ' => .err c (μ'.take n)
 | _ => .bad
noncomputable def fnV (m:Nat) (body:DS):FN:=fun xs μ => (body (starts m xs) μ).endV μ.length
noncomputable def RS.endK:RS → R SV
 | .rt x μ' => .ok x μ'
 | .nx _ μ' => .ok (.val .non) μ'
 | .err c _ μ' => .err c μ'
 | _ => .bad
noncomputable def fnK (m:Nat) (body:DS):FN:=fun xs μ => (body (starts m xs) μ).endK
@[simp] theorem endV_rt (n:Nat) (x:SV) (μ:Store):(RS.rt x μ).endV n = ice n x μ:=(rfl)
@[simp] theorem endD_rt (n:Nat) (x:SV) (μ:Store):(RS.rt x μ).endD n = gc n x μ:=(rfl)
@[simp] theorem endK_rt (x:SV) (μ:Store):(RS.rt x μ).endK = .ok x μ:=(rfl)
@[simp] theorem fnV_is (m:Nat) (body:DS) (xs:List SV) (μ:Store):fnV m body xs μ = (body (starts m xs) μ).endV μ.length:=(rfl)
@[simp] theorem fnD_is (m:Nat) (body:DS) (xs:List SV) (μ:Store):fnD m body xs μ = (body (starts m xs) μ).endD μ.length:=(rfl)
@[simp] theorem fnK_is (m:Nat) (body:DS) (xs:List SV) (μ:Store):fnK m body xs μ = (body (starts m xs) μ).endK:=(rfl)
end Fw
namespace Fw
open PySem L2
noncomputable def ExcAt (K:PySem.W.Frag) (a:Addr) (c:Str) (t:Option Str) (h:Heap):Prop:=∃ C,PySem.W.nsIn K mainGlobals c = some (some (.ref C)) ∧ ExcCls a C h
section
variable (K:PySem.W.Frag) (F:Hp)
mutual
noncomputable def Rep:T → V → Prop
 | .non,v => v = .non
 | .bl b,v => v = .bl b
 | .int i,v => v = .int i
 | .str x,v => v = .str x
 | .lst ts,v => ∃ a vs,v = .ref a ∧ SqL K F a vs ∧ RepL ts vs
 | .tup ts,v => ∃ a vs,v = .ref a ∧ SqT K F a vs ∧ RepL ts vs
 | .dct kts,v => ∃ a kvs,v = .ref a ∧ F a = some (.dK kvs) ∧ RepD kts kvs
 | .exc c t,v => ∃ a,v = .ref a ∧ F a = some (.ext (ExcAt K a c t))
noncomputable def RepL:List T → List V → Prop
 | [],vs => vs = []
 | t :: ts,vs => ∃ v vs',vs = v :: vs' ∧ Rep t v ∧ RepL ts vs'
noncomputable def RepD:List (Key × T) → List (Key × V) → Prop
 | [],kvs => kvs = []
 | (k,t) :: kts,kvs => ∃ v kvs',kvs = (k,v) :: kvs' ∧ Rep t v ∧ RepD kts kvs'
end
end
theorem Same.seqT {K:PySem.W.Frag} {H H':Hp} {a:Addr} {xs:List V} (e:Same H H') (h:SqT K H a xs):SqT K H' a xs:=by
 rcases h with (h | ⟨o,h⟩) | h
 ·exact .inl (.inl (e _ _ h))
 ·exact .inl (.inr ⟨o,e _ _ h⟩)
 ·exact .inr h
section
variable {K:PySem.W.Frag} {F F' H H':Hp}
mutual
theorem Rep.mono (s:Same F F'):∀ (t:T) (v:V),Rep K F t v → Rep K F' t v
 | .non,v,h => by rw [Rep] at h ⊢; exact h
 | .bl b,v,h => by rw [Rep] at h ⊢; exact h
 | .int i,v,h => by rw [Rep] at h ⊢; exact h
 | .str x,v,h => by rw [Rep] at h ⊢; exact h
 | .lst ts,v,h => by
  rw [Rep] at h ⊢
  obtain ⟨a,vs,e,q,r⟩:=h
  exact ⟨a,vs,e,s.seq q,RepL.mono s ts vs r⟩
 | .tup ts,v,h => by
  rw [Rep] at h ⊢
  obtain ⟨a,vs,e,q,r⟩:=h
  exact ⟨a,vs,e,Same.seqT s q,RepL.mono s ts vs r⟩
 | .dct kts,v,h => by
  rw [Rep] at h ⊢
  obtain ⟨a,vs,e,q,r⟩:=h
  exact ⟨a,vs,e,s _ _ q,RepD.mono s kts vs r⟩
 | .exc c t,v,h => by
  rw [Rep] at h ⊢
  obtain ⟨a,e,q⟩:=h
  exact ⟨a,e,s _ _ q⟩
theorem RepL.mono (s:Same F F'):∀ (ts:List T) (vs:List V),RepL K F ts vs → RepL K F' ts vs
 | [],vs,h => by rw [RepL] at h ⊢; exact h
 | t :: ts,vs,h => by
  rw [RepL] at h ⊢
  obtain ⟨v,vs',e,q,r⟩:=h
  exact ⟨v,vs',e,Rep.mono s t v q,RepL.mono s ts vs' r⟩
theorem RepD.mono (s:Same F F'):∀ (kts:List (Key × T)) (kvs:List (Key × V)),RepD K F kts kvs → RepD K F' kts kvs
 | [],vs,h => by rw [RepD] at h ⊢; exact h
 | (k,t) :: ts,vs,h => by
  rw [RepD] at h ⊢
  obtain ⟨v,vs',e,q,r⟩:=h
  exact ⟨v,vs',e,Rep.mono s t v q,RepD.mono s ts vs' r⟩
end
theorem Rep.of_int {i:Int} {v:V} (h:Rep K F (.int i) v):v = .int i:=by rw [Rep] at h; exact h
theorem Rep.of_bl {i:Bool} {v:V} (h:Rep K F (.bl i) v):v = .bl i:=by rw [Rep] at h; exact h
theorem Rep.of_str {i:Str} {v:V} (h:Rep K F (.str i) v):v = .str i:=by rw [Rep] at h; exact h
theorem Rep.of_non {v:V} (h:Rep K F .non v):v = .non:=by rw [Rep] at h; exact h
theorem Rep.int' (i:Int):Rep K F (.int i) (.int i):=by rw [Rep]
theorem Rep.bl' (i:Bool):Rep K F (.bl i) (.bl i):=by rw [Rep]
theorem Rep.str' (i:Str):Rep K F (.str i) (.str i):=by rw [Rep]
theorem Rep.non':Rep K F .non .non:=by rw [Rep]
theorem RepL.length:∀ {ts:List T} {vs:List V},RepL K F ts vs → ts.length = vs.length
 | [],vs,h => by rw [RepL] at h; subst h; rfl
 | t :: ts,vs,h => by
  rw [RepL] at h
  obtain ⟨v,vs',rfl,_,r⟩:=h
  rw [List.length_cons,List.length_cons,RepL.length r]
theorem RepL.get:∀ {ts:List T} {vs:List V} {i:Nat} {t:T},RepL K F ts vs → ts[i]? = some t → ∃ v,vs[i]? = some v ∧ Rep K F t v
 | [],_,_,_,_,e => by simp at e
 | t :: ts,vs,0,t',h,e => by
  rw [RepL] at h
  obtain ⟨v,vs',rfl,q,_⟩:=h
  simp at e; subst e
  exact ⟨v,rfl,q⟩
 | t :: ts,vs,i + 1,t',h,e => by
  rw [RepL] at h
  obtain ⟨v,vs',rfl,q,r⟩:=h
  obtain ⟨v',h1,h2⟩:=RepL.get (i:=i) r (by simpa using e)
  exact ⟨v',by simpa using h1,h2⟩
theorem RepL.append:∀ {ts us:List T} {vs ws:List V},RepL K F ts vs → RepL K F us ws → RepL K F (ts ++ us) (vs ++ ws)
 | [],us,vs,ws,h,g => by rw [RepL] at h; subst h; exact g
 | t :: ts,us,vs,ws,h,g => by
  rw [RepL] at h
  obtain ⟨v,vs',rfl,q,r⟩:=h
  rw [List.cons_append,List.cons_append,RepL]
  exact ⟨v,vs' ++ ws,rfl,q,r.append g⟩
theorem RepL.nil':RepL K F [] []:=by rw [RepL]
theorem RepL.cons' {t:T} {v:V} {ts:List T} {vs:List V} (q:Rep K F t v) (r:RepL K F ts vs):RepL K F (t :: ts) (v :: vs):=by rw [RepL]; exact ⟨v,vs,rfl,q,r⟩
theorem RepL.one {t:T} {v:V} (q:Rep K F t v):RepL K F [t] [v]:=.cons' q .nil'
theorem RepL.take:∀ {ts:List T} {vs:List V} (n:Nat),RepL K F ts vs → RepL K F (ts.take n) (vs.take n)
 | _,_,0,_ => by simpa using RepL.nil'
 | [],vs,n + 1,h => by rw [RepL] at h; subst h; simpa using RepL.nil'
 | t :: ts,vs,n + 1,h => by
  rw [RepL] at h
  obtain ⟨v,vs',rfl,q,r⟩:=h
  exact .cons' q (r.take n)
theorem RepL.drop:∀ {ts:List T} {vs:List V} (n:Nat),RepL K F ts vs → RepL K F (ts.drop n) (vs.drop n)
 | _,_,0,h => by simpa using h
 | [],vs,n + 1,h => by rw [RepL] at h; subst h; simpa using RepL.nil'
 | t :: ts,vs,n + 1,h => by
  rw [RepL] at h
  obtain ⟨v,vs',rfl,q,r⟩:=h
  exact r.drop n
theorem RepL.set:∀ {ts:List T} {vs:List V} (i:Nat) {t:T} {v:V},RepL K F ts vs → Rep K F t v → RepL K F (ts.set i t) (vs.set i v)
 | [],vs,i,_,_,h,_ => by rw [RepL] at h; subst h; simpa using RepL.nil'
 | t :: ts,vs,0,t',v',h,g => by
  rw [RepL] at h
  obtain ⟨v,vs',rfl,q,r⟩:=h
  exact .cons' g r
 | t :: ts,vs,i + 1,t',v',h,g => by
  rw [RepL] at h
  obtain ⟨v,vs',rfl,q,r⟩:=h
  exact .cons' q (r.set i g)
theorem RepL.of_ints:∀ (ns:List Int),RepL K F (ns.map T.int) (ns.map V.int)
 | [] => .nil'
 | n :: ns => .cons' (Rep.int' n) (RepL.of_ints ns)
noncomputable def Now (K:PySem.W.Frag) (F H:Hp) (v:V):T → Prop
 | .lst ts => ∃ a vs,v = .ref a ∧ SqL K H a vs ∧ RepL K F ts vs
 | .tup ts => ∃ a vs,v = .ref a ∧ SqT K F a vs ∧ RepL K F ts vs
 | .dct kts => ∃ a kvs,v = .ref a ∧ H a = some (.dK kvs) ∧ RepD K F kts kvs
 | t => Rep K F t v
theorem Now.of_rep (s:Same F H) {t:T} {v:V} (h:Rep K F t v):Now K F H v t:=by
 cases t with
 | lst ts => rw [Rep] at h; obtain ⟨a,vs,e,q,r⟩:=h; exact ⟨a,vs,e,s.seq q,r⟩
 | tup ts => rw [Rep] at h; obtain ⟨a,vs,e,q,r⟩:=h; exact ⟨a,vs,e,q,r⟩
 | dct ts => rw [Rep] at h; obtain ⟨a,vs,e,q,r⟩:=h; exact ⟨a,vs,e,s _ _ q,r⟩
 | _ => exact h
theorem Now.int {i:Int} {v:V} (h:Now K F H v (.int i)):v = .int i:=Rep.of_int (K:=K) (F:=F) h
theorem Now.bl {i:Bool} {v:V} (h:Now K F H v (.bl i)):v = .bl i:=Rep.of_bl (K:=K) (F:=F) h
theorem Now.str {i:Str} {v:V} (h:Now K F H v (.str i)):v = .str i:=Rep.of_str (K:=K) (F:=F) h
end
noncomputable def PtOk (K:PySem.W.Frag) (F:Hp) (α:List Addr) (v:V):Sum T Nat → Prop
 | .inl t => Rep K F t v
 | .inr k => ∃ a,α[k]? = some a ∧ v = .ref a
noncomputable def SvOk (K:PySem.W.Frag) (F:Hp) (α:List Addr) (v:V):SV → Prop
 | .val t => Rep K F t v
 | .cel k => ∃ a,α[k]? = some a ∧ v = .ref a
 | .box xs => ∃ a vs,v = .ref a ∧ SqT K F a vs ∧ Paired (PtOk K F α) vs xs
noncomputable def CellOk (K:PySem.W.Frag) (F H:Hp) (a:Addr):T → Prop
 | .lst ts => ∃ vs,H a = some (.lst vs) ∧ RepL K F ts vs
 | .dct kts => ∃ kvs,H a = some (.dK kvs) ∧ RepD K F kts kvs
 | _ => False
structure StOk (K:PySem.W.Frag) (F:Hp) (α:List Addr) (μ:Store) (H:Hp):Prop where
 ext:Same F H
 len:α.length = μ.length
 nd:α.Nodup
 there:∀ (k:Nat) (a:Addr),α[k]? = some a → ∃ o,H a = some o
 cell:∀ (k:Nat) (b:Bool) (t:T) (a:Addr),μ[k]? = some (b,t) → α[k]? = some a → (b = true → F a = none ∧ CellOk K F H a t) ∧ (b = false → Rep K F t (.ref a))
structure Sim (K:PySem.W.Frag) (F:Hp) (α:List Addr) (e:Slots) (μ:Store) (σ:St) (H:Hp):Prop where
 st:StOk K F α μ H
 sl:∀ i x,slot e i = some x → ∃ v,σ[i]? = some (some v) ∧ SvOk K F α v x
 len:e.length = σ.length
section
variable {K:PySem.W.Frag} {F F' F2 H H':Hp} {α α':List Addr} {e:Slots} {μ:Store} {σ:St} {v:V} {x:SV} {t:T}
theorem pre_get {k:Nat} {a:Addr} (p:α <+: α') (h:α[k]? = some a):α'[k]? = some a:=by
 obtain ⟨l,rfl⟩:=p
 have hk:k < α.length:=(List.getElem?_eq_some_iff.mp h).1
 rw [List.getElem?_append_left hk]; exact h
theorem PtOk.mono {y:Sum T Nat} (s:Same F F') (p:α <+: α') (h:PtOk K F α v y):PtOk K F' α' v y:=by
 cases y with
 | inl t => exact Rep.mono s t v h
 | inr k => obtain ⟨a,h1,h2⟩:=h; exact ⟨a,pre_get p h1,h2⟩
theorem SvOk.mono (s:Same F F') (p:α <+: α') (h:SvOk K F α v x):SvOk K F' α' v x:=by
 cases x with
 | val t => exact Rep.mono s t v h
 | cel k => obtain ⟨a,h1,h2⟩:=h; exact ⟨a,pre_get p h1,h2⟩
 | box xs => obtain ⟨a,vs,e,q,r⟩:=h; exact ⟨a,vs,e,Same.seqT s q,Paired.imp' (fun _ _ z => PtOk.mono s p z) r⟩
theorem now_of (S:StOk K F α μ H) (h:SvOk K F α v x) (r:rd μ x = some t):Now K F H v t:=by
 cases x with
 | val u => cases r; exact Now.of_rep S.ext h
 | cel k =>
  obtain ⟨a,h1,rfl⟩:=h
  cases q:μ[k]? with
  | none => simp [rd,q] at r
  | some c =>
   obtain ⟨b,u⟩:=c
   simp only [rd,q,Option.map_some] at r
   cases r
   obtain ⟨c1,c2⟩:=S.cell k b t a q h1
   cases b with
   | false => exact Now.of_rep S.ext (c2 rfl)
   | true =>
    obtain ⟨_,c⟩:=c1 rfl
    cases t with
    | lst ts => obtain ⟨vs,g1,g2⟩:=c; exact ⟨a,vs,rfl,SqL.of g1,g2⟩
    | dct ts => obtain ⟨vs,g1,g2⟩:=c; exact ⟨a,vs,rfl,g1,g2⟩
    | _ => exact c.elim
 | box xs => cases r
noncomputable def Grow (F H F' H':Hp):Prop:=∀ b,(F' b = F b ∧ H' b = H b) ∨ (H b = none ∧ F' b = H' b)
theorem Grow.refl:Grow F H F H:=fun _ => .inl ⟨rfl,rfl⟩
theorem Grow.new {p:Addr} {o:HO} (h:H p = none):Grow F H (upd F p o) (upd H p o):=fun b => by
 by_cases e:b = p
 ·subst e; exact .inr ⟨h,by rw [upd_same,upd_same]⟩
 ·exact .inl ⟨upd_ne e,upd_ne e⟩
theorem Grow.same (g:Grow F H F' H') (s:Same F H):Same F F':=fun b o h => by
 rcases g b with ⟨e1,e2⟩ | ⟨e1,e2⟩
 ·rw [e1]; exact h
 ·rw [s b o h] at e1; cases e1
theorem Grow.ext (g:Grow F H F' H') (s:Same F H):Same F' H':=fun b o h => by
 rcases g b with ⟨e1,e2⟩ | ⟨e1,e2⟩
 ·rw [e2]; rw [e1] at h; exact s b o h
 ·rw [← e2]; exact h
theorem CellOk.grow (g:Grow F H F' H') (s:Same F H) {a:Addr} (h:CellOk K F H a t):CellOk K F' H' a t:=by
 have keep:∀ {o:HO},H a = some o → H' a = some o:=fun {o} h => by
  rcases g a with ⟨e1,e2⟩ | ⟨e1,e2⟩
  ·rw [e2]; exact h
  ·rw [h] at e1; cases e1
 cases t with
 | lst ts => obtain ⟨vs,h1,h2⟩:=h; exact ⟨vs,keep h1,RepL.mono (g.same s) _ _ h2⟩
 | dct ts => obtain ⟨vs,h1,h2⟩:=h; exact ⟨vs,keep h1,RepD.mono (g.same s) _ _ h2⟩
 | _ => exact h.elim
theorem CellOk.there {a:Addr} (h:CellOk K F H a t):∃ o,H a = some o:=by
 cases t with
 | lst ts => obtain ⟨vs,h1,h2⟩:=h; exact ⟨_,h1⟩
 | dct ts => obtain ⟨vs,h1,h2⟩:=h; exact ⟨_,h1⟩
 | _ => exact h.elim
theorem StOk.grow (S:StOk K F α μ H) (g:Grow F H F' H'):StOk K F' α μ H' where
 ext:=g.ext S.ext
 len:=S.len
 nd:=S.nd
 there:=fun k a h => by
  obtain ⟨o,ho⟩:=S.there k a h
  rcases g a with ⟨e1,e2⟩ | ⟨e1,e2⟩
  ·exact ⟨o,by rw [e2]; exact ho⟩
  ·rw [ho] at e1; cases e1
 cell:=fun k b t a h1 h2 => by
  obtain ⟨c1,c2⟩:=S.cell k b t a h1 h2
  refine ⟨fun hb => ?_,fun hb => Rep.mono (g.same S.ext) _ _ (c2 hb)⟩
  obtain ⟨d1,d2⟩:=c1 hb
  refine ⟨?_,d2.grow g S.ext⟩
  obtain ⟨o,ho⟩:=d2.there
  rcases g a with ⟨e1,e2⟩ | ⟨e1,e2⟩
  ·rw [e1]; exact d1
  ·rw [ho] at e1; cases e1
theorem Sim.grow (S:Sim K F α e μ σ H) (g:Grow F H F' H'):Sim K F' α e μ σ H' where
 st:=S.st.grow g
 sl:=fun i x h => by
  obtain ⟨v,h1,h2⟩:=S.sl i x h
  exact ⟨v,h1,h2.mono (g.same S.st.ext) (List.prefix_refl _)⟩
 len:=S.len
theorem Sim.of (S:Sim K F α e μ σ H) {μ':Store} (s:Same F F') (p:α <+: α') (S':StOk K F' α' μ' H'):Sim K F' α' e μ' σ H' :=
 ⟨S',fun i x h => by
  obtain ⟨v,h1,h2⟩:=S.sl i x h
  exact ⟨v,h1,h2.mono s p⟩,S.len⟩
theorem nodup_at {k j:Nat} {a:Addr} (n:α.Nodup) (h1:α[k]? = some a) (h2:α[j]? = some a):k = j:=by
 obtain ⟨a1,b1⟩:=List.getElem?_eq_some_iff.mp h1
 obtain ⟨a2,b2⟩:=List.getElem?_eq_some_iff.mp h2
 exact (List.getElem_inj n).mp (b1.trans b2.symm)
theorem frz_cel {k:Nat} (S:StOk K F α μ H) (h:∃ a,α[k]? = some a ∧ v = .ref a) {μ':Store} (r:frz (.cel k) μ = .ok t μ'):∃ F',Same F F' ∧ (∀ b,b ∉ α → F' b = F b) ∧ StOk K F' α μ' H ∧ Rep K F' t v:=by
  obtain ⟨a,h1,rfl⟩:=h
  unfold frz at r
  cases q:μ[k]? with
  | none => simp only [q] at r; cases r
  | some c =>
   obtain ⟨b,u⟩:=c
   simp only [q] at r
   cases r
   have hk:k < μ.length:=(List.getElem?_eq_some_iff.mp q).1
   obtain ⟨c1,c2⟩:=S.cell k b t a q h1
   have main:∃ F',Same F F' ∧ Same F' H ∧ Rep K F' t (.ref a) ∧ ∀ c,c ≠ a → F' c = F c:=by
    cases b with
    | false => exact ⟨F,Same.refl F,S.ext,c2 rfl,fun _ _ => rfl⟩
    | true =>
     obtain ⟨d1,d2⟩:=c1 rfl
     obtain ⟨o,ho⟩:=d2.there
     have s1:Same F (upd F a o):=fun c z hz => by
      rw [upd_ne (fun q => by subst q; rw [d1] at hz; cases hz)]; exact hz
     refine ⟨upd F a o,s1,fun c z hz => ?_,?_,fun c hc => upd_ne hc⟩
     ·by_cases e:c = a
      ·subst e; rw [upd_same] at hz; cases hz; exact ho
      ·rw [upd_ne e] at hz; exact S.ext c z hz
     ·cases t with
      | lst ts => obtain ⟨vs,g1,g2⟩:=d2; rw [g1] at ho; cases ho; rw [Rep]; exact ⟨a,vs,rfl,SqL.of upd_same,RepL.mono s1 _ _ g2⟩
      | dct ts => obtain ⟨vs,g1,g2⟩:=d2; rw [g1] at ho; cases ho; rw [Rep]; exact ⟨a,vs,rfl,upd_same,RepD.mono s1 _ _ g2⟩
      | _ => exact d2.elim
   obtain ⟨F',s1,s2,rp,ne⟩:=main
   refine ⟨F',s1,fun c hc => ne c fun q => hc (by rw [q]; exact List.mem_of_getElem? h1),⟨s2,by rw [List.length_set]; exact S.len,S.nd,S.there,fun j b' u' a' g1 g2 => ?_⟩,rp⟩
   by_cases e:j = k
   ·subst e
    rw [List.getElem?_set_self hk] at g1
    cases g1
    rw [h1] at g2; cases g2
    exact ⟨fun z => (by cases z),fun _ => rp⟩
   ·rw [List.getElem?_set_ne (Ne.symm e)] at g1
    obtain ⟨z1,z2⟩:=S.cell j b' u' a' g1 g2
    have na:a' ≠ a:=fun q => by subst q; exact e (nodup_at S.nd g2 h1)
    refine ⟨fun hb => ?_,fun hb => Rep.mono s1 _ _ (z2 hb)⟩
    obtain ⟨y1,y2⟩:=z1 hb
    refine ⟨by rw [ne _ na]; exact y1,?_⟩
    cases u' with
    | lst ts => obtain ⟨vs,w1,w2⟩:=y2; exact ⟨vs,w1,RepL.mono s1 _ _ w2⟩
    | dct ts => obtain ⟨vs,w1,w2⟩:=y2; exact ⟨vs,w1,RepD.mono s1 _ _ w2⟩
    | _ => exact y2.elim
theorem frz1_eq (k:Nat) (μ:Store):frz1 (.inr k) μ = frz (.cel k) μ:=by unfold frz1 frz; rfl
theorem frz1s_ok:∀ {xs:List (Sum T Nat)} {vs:List V} {μ μ':Store} {F:Hp} {ts:List T},StOk K F α μ H → Paired (PtOk K F α) vs xs → frz1s xs μ = .ok ts μ' → ∃ F',Same F F' ∧ (∀ b,b ∉ α → F' b = F b) ∧ StOk K F' α μ' H ∧ RepL K F' ts vs
 | [],vs,μ,μ',F,ts,S,p,r => by
  cases p
  cases r
  exact ⟨F,Same.refl F,fun _ _ => rfl,S,RepL.nil'⟩
 | x :: xs,vs,μ,μ',F,ts,S,p,r => by
  cases p with
  | @cons v₁ _ vs₁ _ hv p =>
   unfold frz1s at r
   obtain ⟨t,μ1,r1,r⟩:=R.bind_eq_ok r
   obtain ⟨ts',μ2,r2,r⟩:=R.bind_eq_ok r
   cases r
   have one:∃ F',Same F F' ∧ (∀ b,b ∉ α → F' b = F b) ∧ StOk K F' α μ1 H ∧ Rep K F' t v₁:=by
    cases x with
    | inl u => cases r1; exact ⟨F,Same.refl F,fun _ _ => rfl,S,hv⟩
    | inr k => rw [frz1_eq] at r1; exact frz_cel S hv r1
   obtain ⟨F1,s1,n1,S1,q1⟩:=one
   obtain ⟨F2,s2,n2,S2,q2⟩:=frz1s_ok S1 (Paired.imp' (fun _ _ z => PtOk.mono s1 (List.prefix_refl _) z) p) r2
   exact ⟨F2,s1.trans s2,fun b hb => (n2 b hb).trans (n1 b hb),S2,.cons' (Rep.mono s2 _ _ q1) q2⟩
theorem frz_ok (S:StOk K F α μ H) (h:SvOk K F α v x) {μ':Store} (r:frz x μ = .ok t μ'):∃ F',Same F F' ∧ (∀ b,b ∉ α → F' b = F b) ∧ StOk K F' α μ' H ∧ Rep K F' t v:=by
 cases x with
 | val u => cases r; exact ⟨F,Same.refl F,fun _ _ => rfl,S,h⟩
 | cel k => exact frz_cel S h r
 | box xs =>
  obtain ⟨a,vs,rfl,q,p⟩:=h
  unfold frz at r
  obtain ⟨ts,μ1,r1,r⟩:=R.bind_eq_ok r
  cases r
  obtain ⟨F1,s1,n1,S1,q1⟩:=frz1s_ok S p r1
  refine ⟨F1,s1,n1,S1,?_⟩
  rw [Rep]
  exact ⟨a,vs,rfl,Same.seqT s1 q,q1⟩
theorem frzs_ok:∀ {xs:List SV} {vs:List V} {μ μ':Store} {F:Hp} {ts:List T},StOk K F α μ H → Paired (fun v x => SvOk K F α v x) vs xs → frzs xs μ = .ok ts μ' → ∃ F',Same F F' ∧ (∀ b,b ∉ α → F' b = F b) ∧ StOk K F' α μ' H ∧ RepL K F' ts vs
 | [],vs,μ,μ',F,ts,S,p,r => by
  cases p
  cases r
  exact ⟨F,Same.refl F,fun _ _ => rfl,S,RepL.nil'⟩
 | x :: xs,vs,μ,μ',F,ts,S,p,r => by
  cases p with
  | cons hv p =>
   rw [frzs_cons] at r
   obtain ⟨t,μ1,r1,r⟩:=R.bind_eq_ok r
   obtain ⟨ts',μ2,r2,r⟩:=R.bind_eq_ok r
   cases r
   obtain ⟨F1,s1,n1,S1,q1⟩:=frz_ok S hv r1
   obtain ⟨F2,s2,n2,S2,q2⟩:=frzs_ok S1 (Paired.imp' (fun _ _ z => SvOk.mono s1 (List.prefix_refl _) z) p) r2
   exact ⟨F2,s1.trans s2,fun b hb => (n2 b hb).trans (n1 b hb),S2,.cons' (Rep.mono s2 _ _ q1) q2⟩
theorem put_ok (S:StOk K F α μ H) {k:Nat} {a:Addr} {t₀:T} {o:HO} (hk:μ[k]? = some (true,t₀)) (ha:α[k]? = some a) (c:CellOk K F (upd H a o) a t):StOk K F α (μ.set k (true,t)) (upd H a o):=by
 have hlt:k < μ.length:=(List.getElem?_eq_some_iff.mp hk).1
 have hF:=((S.cell k true t₀ a hk ha).1 rfl).1
 refine ⟨fun b z hz => ?_,by rw [List.length_set]; exact S.len,S.nd,fun j b h => ?_,fun j b u a' h1 h2 => ?_⟩
 ·rw [upd_ne (fun q => by subst q; rw [hF] at hz; cases hz)]; exact S.ext b z hz
 ·by_cases e:b = a
  ·subst e; exact ⟨o,upd_same⟩
  ·rw [upd_ne e]; exact S.there j b h
 ·by_cases e:j = k
  ·subst e
   rw [List.getElem?_set_self hlt] at h1
   cases h1
   rw [ha] at h2; cases h2
   exact ⟨fun _ => ⟨hF,c⟩,fun z => (by cases z)⟩
  ·rw [List.getElem?_set_ne (Ne.symm e)] at h1
   have na:a' ≠ a:=fun q => by subst q; exact e (nodup_at S.nd h2 ha)
   obtain ⟨c1,c2⟩:=S.cell j b u a' h1 h2
   refine ⟨fun hb => ⟨(c1 hb).1,?_⟩,c2⟩
   have d:=(c1 hb).2
   cases u with
   | lst ts => obtain ⟨vs,w1,w2⟩:=d; exact ⟨vs,by rw [upd_ne na]; exact w1,w2⟩
   | dct ts => obtain ⟨vs,w1,w2⟩:=d; exact ⟨vs,by rw [upd_ne na]; exact w1,w2⟩
   | _ => exact d.elim
theorem StOk.take {β:List Addr} (S:StOk K F β μ H) (n:Nat):StOk K F (β.take n) (μ.take n) H:=by
 have cut:∀ {γ:Type} {l:List γ} {k:Nat} {z:γ},(l.take n)[k]? = some z → l[k]? = some z:=fun {γ l k z} h => by
  rw [List.getElem?_take] at h
  split at h
  ·exact h
  ·cases h
 exact ⟨S.ext,by rw [List.length_take,List.length_take,S.len],S.nd.sublist (List.take_sublist _ _),fun k a h => S.there k a (cut h),fun k b t a h1 h2 => S.cell k b t a (cut h1) (cut h2)⟩
theorem gc_ok {μ₀:Store} {β:List Addr} {r:SV} {μ':Store} (hα:α.length = μ₀.length) (p:α <+: β) (S:StOk K F β μ H) (h:SvOk K F β v x) (hg:gc μ₀.length x μ = .ok r μ') :
  ∃ γ,α <+: γ ∧ (∀ b,b ∈ γ → b ∈ β) ∧ StOk K F γ μ' H ∧ SvOk K F γ v r:=by
 have hn:β.take μ₀.length = α:=by
  rw [← hα]
  obtain ⟨l,rfl⟩:=p
  simp
 have hp:α <+: β.take μ₀.length:=by rw [hn]; exact List.prefix_refl _
 unfold gc at hg
 cases x with
 | val t =>
  simp only at hg
  cases hg
  exact ⟨β.take μ₀.length,hp,fun b hb => List.mem_of_mem_take hb,S.take _,h⟩
 | cel k =>
  obtain ⟨a,ha,rfl⟩:=h
  simp only at hg
  by_cases hk:k < μ₀.length
  ·rw [if_pos hk] at hg
   cases hg
   exact ⟨β.take μ₀.length,hp,fun b hb => List.mem_of_mem_take hb,S.take _,a,by rw [List.getElem?_take_of_lt hk]; exact ha,rfl⟩
  ·rw [if_neg hk] at hg
   cases hc:μ[k]? with
   | none => rw [hc] at hg; cases hg
   | some c =>
    rw [hc] at hg
    cases hg
    have T:=S.take μ₀.length
    have hl:(β.take μ₀.length).length = μ₀.length:=by rw [hn]; exact hα
    have hl2:(μ.take μ₀.length).length = μ₀.length:=by rw [← T.len]; exact hl
    have hend:∀ {γ:Type} {l:List γ} {z:γ} {j:Nat} {y:γ},l.length = μ₀.length → (l ++ [z])[j]? = some y → (j < μ₀.length ∧ l[j]? = some y) ∨ (j = μ₀.length ∧ y = z):=fun {γ l z j y} e h => by
     by_cases hj:j < l.length
     ·rw [List.getElem?_append_left hj] at h; exact .inl ⟨by lia,h⟩
     ·rw [List.getElem?_append_right (by lia)] at h
      by_cases h0:j - l.length = 0
      ·rw [h0] at h; simp at h; exact .inr ⟨by lia,h.symm⟩
      ·rw [List.getElem?_eq_none (by simp; lia)] at h; cases h
    have cut:∀ {γ:Type} {l:List γ} {j:Nat} {z:γ},(l.take μ₀.length)[j]? = some z → l[j]? = some z:=fun {γ l j z} h => by
     rw [List.getElem?_take] at h
     split at h
     ·exact h
     ·cases h
    refine ⟨β.take μ₀.length ++ [a],hp.trans (List.prefix_append _ _),fun b hb => (List.mem_append.mp hb).elim (fun z => List.mem_of_mem_take z) fun z => by simp at z; subst z; exact List.mem_of_getElem? ha,⟨S.ext,by rw [List.length_append,List.length_append,hl,hl2]; rfl,?_,fun j b g => ?_,fun j b u a' g1 g2 => ?_⟩,a,?_,rfl⟩
    ·rw [List.nodup_append]
     refine ⟨T.nd,by simp,fun b hb b' hb' => ?_⟩
     simp at hb'
     subst hb'
     intro q
     subst q
     obtain ⟨j,hj⟩:=List.mem_iff_getElem?.mp hb
     have hj':j < μ₀.length:=by rw [← hl]; exact (List.getElem?_eq_some_iff.mp hj).1
     have:=nodup_at S.nd (cut hj) ha
     lia
    ·rcases hend hl g with ⟨_,g'⟩ | ⟨_,rfl⟩
     ·exact T.there j b g'
     ·exact S.there k _ ha
    ·rcases hend hl g2 with ⟨hj,g'⟩ | ⟨hj,rfl⟩
     ·rcases hend hl2 g1 with ⟨_,g1'⟩ | ⟨hj',_⟩
      ·exact T.cell j b u a' g1' g'
      ·lia
     ·rcases hend hl2 g1 with ⟨hj',_⟩ | ⟨_,e⟩
      ·lia
      ·exact S.cell k b u _ (by rw [hc,e]) ha
    ·rw [List.getElem?_append_right (by lia),hl]
     simp
 | box xs => cases hg
theorem ice_ok {μ₀:Store} {β:List Addr} {r:SV} {μ':Store} (hα:α.length = μ₀.length) (p:α <+: β) (S:StOk K F β μ H) (h:SvOk K F β v x) (hg:ice μ₀.length x μ = .ok r μ') :
  ∃ F',Same F F' ∧ (∀ b,b ∉ β → F' b = F b) ∧ StOk K F' α μ' H ∧ SvOk K F' α v r:=by
 unfold ice at hg
 obtain ⟨t,μ1,h1,hg⟩:=R.bind_eq_ok hg
 cases hg
 obtain ⟨F1,s1,n1,S1,q1⟩:=frz_ok S h h1
 have hn:β.take μ₀.length = α:=by
  rw [← hα]
  obtain ⟨l,rfl⟩:=p
  simp
 have S2:=S1.take μ₀.length
 rw [hn] at S2
 exact ⟨F1,s1,n1,S2,q1⟩
end
structure Ex (F:Hp) (α:List Addr) (H F':Hp) (α':List Addr) (H':Hp):Prop where
 same:Same F F'
 pre:α <+: α'
 fr:∀ b o,H b = some o → F b = none → b ∉ α → H' b = some o ∧ F' b = none ∧ b ∉ α'
section
variable {K:PySem.W.Frag} {F F' F1 F2 H H' H1 H2:Hp} {α α' α1 α2:List Addr} {μ μ':Store}
theorem Ex.refl:Ex F α H F α H:=⟨Same.refl F,List.prefix_refl _,fun _ _ h1 h2 h3 => ⟨h1,h2,h3⟩⟩
theorem Ex.trans (x:Ex F α H F1 α1 H1) (y:Ex F1 α1 H1 F2 α2 H2):Ex F α H F2 α2 H2 :=
 ⟨x.same.trans y.same,x.pre.trans y.pre,fun b o h1 h2 h3 => let ⟨g1,g2,g3⟩:=x.fr b o h1 h2 h3; y.fr b o g1 g2 g3⟩
theorem Ex.of_ne (s:Same F F') (n:∀ b,b ∉ α → F' b = F b):Ex F α H F' α H:=⟨s,List.prefix_refl _,fun b o h1 h2 h3 => ⟨h1,by rw [n b h3]; exact h2,h3⟩⟩
theorem Grow.ex (g:Grow F H F' H') (s:Same F H):Ex F α H F' α H':=⟨g.same s,List.prefix_refl _,fun b o h1 h2 h3 => by
 rcases g b with ⟨e1,e2⟩ | ⟨e1,e2⟩
 ·exact ⟨by rw [e2]; exact h1,by rw [e1]; exact h2,h3⟩
 ·rw [h1] at e1; cases e1⟩
theorem Ex.was {p:Addr} (x:Ex F α H F1 α1 H1) (S:StOk K F1 α1 μ H1) (h:H1 p = none):H p = none:=by
 cases q:H p with
 | none => rfl
 | some o =>
  exfalso
  cases f:F p with
  | some z => rw [S.ext p z (x.same p z f)] at h; cases h
  | none =>
   by_cases hm:p ∈ α
   ·obtain ⟨k,hk⟩:=List.mem_iff_getElem?.mp hm
    obtain ⟨z,hz⟩:=S.there k p (pre_get x.pre hk)
    rw [hz] at h; cases h
   ·rw [(x.fr p o q f hm).1] at h; cases h
theorem Ex.lay {p:Addr} {o:HO} (h:H p = none):Ex F α H F α (upd H p o):=⟨Same.refl F,List.prefix_refl _,fun b z h1 h2 h3 => ⟨by rw [upd_ne (fun q => by subst q; rw [h] at h1; cases h1)]; exact h1,h2,h3⟩⟩
theorem Ex.put {k:Nat} {a:Addr} {o:HO} (ha:α[k]? = some a):Ex F α H F α (upd H a o):=⟨Same.refl F,List.prefix_refl _,fun b z h1 h2 h3 => ⟨by rw [upd_ne (fun q => h3 (by rw [q]; exact List.mem_of_getElem? ha))]; exact h1,h2,h3⟩⟩
theorem Ex.more {p:Addr} (x:Ex F α H F' α' H') (h:H p = none):Ex F α H F' (α' ++ [p]) H':=⟨x.same,x.pre.trans (List.prefix_append _ _),fun b o h1 h2 h3 => by
 obtain ⟨g1,g2,g3⟩:=x.fr b o h1 h2 h3
 refine ⟨g1,g2,fun hm => ?_⟩
 rcases List.mem_append.mp hm with z | z
 ·exact g3 z
 ·simp at z; subst z; rw [h] at h1; cases h1⟩
theorem Ex.ice {p:Addr} {o:HO} (x:Ex F α H F' α' H') (h:H p = none) (h':F' p = none):Ex F α H (upd F' p o) α' H':=⟨x.same.trans fun b z hz => by
  rw [upd_ne (fun q => by subst q; rw [h'] at hz; cases hz)]; exact hz,x.pre,fun b z h1 h2 h3 => by
 obtain ⟨g1,g2,g3⟩:=x.fr b z h1 h2 h3
 exact ⟨g1,by rw [upd_ne (fun q => by subst q; rw [h] at h1; cases h1)]; exact g2,g3⟩⟩
end
end Fw
namespace Fw
open PySem L2
theorem RepD.length {K:PySem.W.Frag} {F:Hp}:∀ {ts:List (Key × T)} {vs:List (Key × V)},RepD K F ts vs → ts.length = vs.length
 | [],vs,h => by rw [RepD] at h; subst h; rfl
 | (k,t) :: ts,vs,h => by
  rw [RepD] at h
  obtain ⟨v,vs',rfl,_,r⟩:=h
  rw [List.length_cons,List.length_cons,RepD.length r]
end Fw
namespace Fw
open PySem L2
noncomputable def R.wp {α:Type} (r:R α) (Q:α → Store → Prop) (E:T → Store → Prop):Prop:=match r with
 | .ok a μ => Q a μ
 | .err c μ => E c μ
 | .bad => False
theorem R.wp_bind {α β:Type} {r:R α} {f:α → Store → R β} {Q:β → Store → Prop} {E:T → Store → Prop} (h:(r.bind f).wp Q E):r.wp (fun a μ => (f a μ).wp Q E) E:=by
 cases r <;> exact h
theorem R.wp.mono {α:Type} {r:R α} {Q Q':α → Store → Prop} {E E':T → Store → Prop} (h:r.wp Q E) (hQ:∀ a μ,Q a μ → Q' a μ) (hE:∀ c μ,E c μ → E' c μ):r.wp Q' E':=by
 cases r with
 | ok a μ => exact hQ a μ h
 | err c μ => exact hE c μ h
 | bad => exact h
theorem R.wp_lift {α:Type} {o:Option α} {μ:Store} {Q:α → Store → Prop} {E:T → Store → Prop} (h:(R.lift o μ).wp Q E):∃ a,o = some a ∧ Q a μ:=by
 cases o with
 | none => exact h.elim
 | some a => exact ⟨a,rfl,h⟩
noncomputable def Post (K:PySem.W.Frag) (F:Hp) (α:List Addr) (H:Hp) (e:Slots) (σ:St) (Q:VK) (x:SV) (μ:Store):Prop :=
 ∀ v H' F' α',Ex F α H F' α' H' → Sim K F' α' e μ σ H' → SvOk K F' α' v x → Q v H'
noncomputable def Flies (X:Cx) (pins:List (Addr × Obj)) (σ:St) (H:Hp) (c:T) (ev:Value) (s':Shared):Prop :=
 ∃ n C,c = .exc n none ∧ X.mg n = some (.ref C) ∧ ((X.calm = true ∧ ∃ s h' e vs,Inv X pins σ H s ∧ Heap.MadeExcOf s.heap h' e (.ref C) vs ∧ ev = .ref e ∧ s' = { s with heap:=h' }) ∨
  (∃ H0 s,Inv X pins σ H0 s ∧ CX1 X.prog X.w X.stack H0 s (fun cv _ H' => cv = .ref C ∧ H' = H) ev s') ∨ (X.calm = true ∧ ∃ e t B,ev = .ref e ∧ Hel X pins σ H e t C B s'))
noncomputable def XPost (X:Cx) (F:Hp) (α:List Addr) (H:Hp) (e:Slots) (c:T) (μ:Store):Prop :=
 ∀ ev s',(∃ pins σ' H' F' α',Ex F α H F' α' H' ∧ Sim X.K F' α' e μ σ' H' ∧ Flies X pins σ' H' c ev s') → X.xe ev s'
theorem XPost.mono {X:Cx} {F F1 H H1:Hp} {α α1:List Addr} {e:Slots} {c:T} {μ:Store} (x:Ex F α H F1 α1 H1) (h:XPost X F α H e c μ):XPost X F1 α1 H1 e c μ :=
 fun ev s' ⟨pins,σ',H',F',α',y,S,f⟩ => h ev s' ⟨pins,σ',H',F',α',x.trans y,S,f⟩
noncomputable def tD (X:Cx) (d:D):TE:=fun σ H Q => ∃ F α e μ,Sim X.K F α e μ σ H ∧ (d e μ).wp (Post X.K F α H e σ Q) (XPost X F α H e)
noncomputable def tDT (X:Cx) (d:D):TT:=fun σ H Q => ∃ F α e μ,Sim X.K F α e μ σ H ∧ (d e μ).wp (fun x μ' => ∃ b,x = .val (.bl b) ∧
 ∀ H' F' α',Ex F α H F' α' H' → Sim X.K F' α' e μ' σ H' → Q b H') (XPost X F α H e)
noncomputable def tDA (X:Cx) (ds:List D):TA:=fun σ H Q => ∃ F α e μ,Sim X.K F α e μ σ H ∧ (dArgs ds e μ).wp (fun xs μ' =>
 ∀ vs H' F' α',Ex F α H F' α' H' → Sim X.K F' α' e μ' σ H' → Paired (fun v x => SvOk X.K F' α' v x) vs xs → Q vs H') (XPost X F α H e)
noncomputable def CE (X:Cx) (e:Expr) (d:D):Prop:=PE X e (tD X d)
noncomputable def CT (X:Cx) (e:Expr) (d:D):Prop:=PT X e (tDT X d)
noncomputable def CA (X:Cx) (es:List Expr) (ds:List D):Prop:=PA X es (tDA X ds)
theorem PE.imp {X:Cx} {e:Expr} {t t':TE} (h:PE X e t) (i:∀ σ H Q,t' σ H Q → t σ H Q):PE X e t':=fun pins s σ H Q I q => h pins s σ H Q I (i σ H Q q)
theorem PT.imp {X:Cx} {e:Expr} {t t':TT} (h:PT X e t) (i:∀ σ H Q,t' σ H Q → t σ H Q):PT X e t':=fun pins s σ H Q I q => h pins s σ H Q I (i σ H Q q)
theorem PA.imp {X:Cx} {e:List Expr} {t t':TA} (h:PA X e t) (i:∀ σ H Q,t' σ H Q → t σ H Q):PA X e t':=fun pos pins s σ H Q I q => h pos pins s σ H Q I (i σ H Q q)
theorem PS.imp {X:Cx} {e:Stmt} {t t':TS} (h:PS X e t) (i:∀ D σ H,t' D σ H → t D σ H):PS X e t':=fun pins s σ H D I q => h pins s σ H D I (i D σ H q)
theorem PSs.imp {X:Cx} {e:List Stmt} {t t':TS} (h:PSs X e t) (i:∀ D σ H,t' D σ H → t D σ H):PSs X e t':=fun pins s σ H D I q => h pins s σ H D I (i D σ H q)
noncomputable def OpSem (K:PySem.W.Frag) (r:R2) (f:T → T → Option T):Prop:=∀ F H v u t t' w Q,Same F H → Now K F H v t → Now K F H u t' → f t t' = some w →
 (∀ v' H' F',Grow F H F' H' → Rep K F' w v' → Q v' H') → r v u H Q
noncomputable def UnSem (K:PySem.W.Frag) (r:V → Hp → VK → Prop) (f:T → Option T):Prop:=∀ F H v t w Q,Same F H → Now K F H v t → f t = some w →
 (∀ v' H' F',Grow F H F' H' → Rep K F' w v' → Q v' H') → r v H Q
noncomputable def CallSem1 (K:PySem.W.Frag) (r:List V → Hp → VK → Prop) (f:T → Option T):Prop:=∀ F H v t w Q,Same F H → Now K F H v t → f t = some w →
 (∀ v' H' F',Grow F H F' H' → Rep K F' w v' → Q v' H') → r [v] H Q
noncomputable def CallSemF (K:PySem.W.Frag) (r:List V → Hp → VK → Prop) (f:T → Option T):Prop:=∀ F H v t w Q,Same F H → Now K F H v t → f t = some w →
 (∀ p o,H p = none → CellOk K F (upd H p o) p w → Q (.ref p) (upd H p o)) → r [v] H Q
section
variable {X:Cx} {a b c:Expr} {da db dc:D} {pos:Pos}
theorem ce_var (i:Nat) {x:Str} (hN:X.N[i]? = some x:=by rfl) (hv:Vis X.env.scope x:=by first | exact Or.inl rfl | exact Or.inr (Or.inl rfl) | exact Or.inr (Or.inr rfl)) (hd:(x == ("__debug__":Str)) = false:=by decide)
  (hcd:(x == ("__classdict__":Str)) = false:=by decide):CE X (.Name x pos) (dVar i) :=
 PE.imp (pe_var hN hv hd hcd) fun σ H Q hX11_ => by
  obtain ⟨F,α,e,μ,S,h⟩:=hX11_
  obtain ⟨x,h1,h⟩:=R.wp_lift h
  obtain ⟨v,hv,ok⟩:=S.sl i x h1
  exact ⟨v,hv,h v H F α Ex.refl S ok⟩
theorem ce_const {v:V} {t:T} (h:PE X a (tC v)) (r:∀ F,Rep X.K F t v):CE X a (dC t) :=
 PE.imp h fun σ H Q ⟨F,α,e,μ,S,h⟩ => h v H F α Ex.refl S (r F)
theorem ce_int {i:Int} {j pos}:CE X (.Constant (.int i) j pos) (dC (.int i)):=ce_const pe_int fun _ => Rep.int' i
theorem ce_bl {i:Bool} {j pos}:CE X (.Constant (.bool i) j pos) (dC (.bl i)):=ce_const pe_bl fun _ => Rep.bl' i
theorem ce_str {i:Str} {j pos}:CE X (.Constant (.str i) j pos) (dC (.str i)):=ce_const pe_str fun _ => Rep.str' i
theorem ce_non {j pos}:CE X (.Constant .none j pos) (dC .non):=ce_const pe_non fun _ => Rep.non'
theorem ce_gint {x:Str} {i:Int} {tk:Nat} (hm:X.mg x = some (.int i tk)) (hg:Gl X x:=by rfl) (hd:(x == ("__debug__":Str)) = false:=by decide):CE X (.Name x pos) (dC (.int i)):=ce_const (v:=.int i) (pe_glob hg hm ⟨tk,rfl⟩ hd) fun _ => Rep.int' i
theorem ce_gstr {x:Str} {i:Str} {tk:Nat} (hm:X.mg x = some (.str i tk)) (hg:Gl X x:=by rfl) (hd:(x == ("__debug__":Str)) = false:=by decide):CE X (.Name x pos) (dC (.str i)):=ce_const (v:=.str i) (pe_glob hg hm ⟨tk,rfl⟩ hd) fun _ => Rep.str' i
theorem two {r:R2} {f:T → T → Option T} (hs:OpSem X.K r f) (σ:St) (H:Hp) (Q:VK) (h:tD X (dBin f da db) σ H Q):tOp r (tD X da) (tD X db) σ H Q:=by
 obtain ⟨F,α,e,μ,S,h⟩:=h
 refine ⟨F,α,e,μ,S,?_⟩
 refine (R.wp_bind h).mono (fun x μ1 h v H1 F1 α1 x1 S1 o1 => ⟨F1,α1,e,μ1,S1,?_⟩) fun _ _ h => h
 refine (R.wp_bind h).mono (fun y μ2 h v2 H2 F2 α2 x2 S2 o2 => ?_) fun _ _ h => h.mono x1
 obtain ⟨w,h9,post⟩:=R.wp_lift h
 obtain ⟨t,u,w',ht,hu,h,rfl⟩:=ap2_eq h9
 exact hs F2 H2 v v2 t u w' Q S2.st.ext (now_of S2.st (o1.mono x2.same x2.pre) ht) (now_of S2.st o2 hu) h fun v' H' F' g rp =>
  post v' H' F' α2 (x1.trans (x2.trans (g.ex S2.st.ext))) (S2.grow g) rp
theorem ce_bin {op:Operator} {r:R2} {f:T → T → Option T} (ho:OpR X (binaryOp op) r) (hs:OpSem X.K r f) (ha:CE X a da) (hb:CE X b db):CE X (.BinOp a op b pos) (dBin f da db) :=
 PE.imp (pe_op ho ha hb) (two hs)
theorem ce_cmp {op:CmpOp} {r:R2} {f:T → T → Option T} (ho:OpR X (compareOp op) r) (hs:OpSem X.K r f) (hm:behindInMarks op b = false) (ha:CE X a da) (hb:CE X b db):CE X (.Compare a [op] [b] pos) (dBin f da db) :=
 PE.imp (pe_cmpR ho ha hb hm) (two hs)
theorem one {r:V → Hp → VK → Prop} {f:T → Option T} (hs:UnSem X.K r f) (σ:St) (H:Hp) (Q:VK) (h:tD X (dUn f da) σ H Q):tUn r (tD X da) σ H Q:=by
 obtain ⟨F,α,e,μ,S,h⟩:=h
 refine ⟨F,α,e,μ,S,?_⟩
 refine (R.wp_bind h).mono (fun x μ1 h v H1 F1 α1 x1 S1 o1 => ?_) fun _ _ h => h
 obtain ⟨w,h9,post⟩:=R.wp_lift h
 obtain ⟨t,w',ht,h,rfl⟩:=ap1_eq h9
 exact hs F1 H1 v t w' Q S1.st.ext (now_of S1.st o1 ht) h fun v' H' F' g rp =>
  post v' H' F' α1 (x1.trans (g.ex S1.st.ext)) (S1.grow g) rp
theorem ce_un {op:UnaryOp} {r:V → Hp → VK → Prop} {f:T → Option T} (ho:UnR X (unaryOp op) r) (hs:UnSem X.K r f) (ha:CE X a da):CE X (.UnaryOp op a pos) (dUn f da):=PE.imp (pe_un ho ha) (one hs)
theorem ca_nil:CA X [] []:=PA.imp pa_nil fun σ H Q ⟨F,α,e,μ,S,h⟩ => h [] H F α Ex.refl S .nil
theorem ca_cons {es:List Expr} {ds:List D} (ha:CE X a da) (hr:CA X es ds) (hs:starEach (a :: es) X.env = (false,eval a X.env) :: starEach es X.env:=by rfl):CA X (a :: es) (da :: ds) :=
 PA.imp (pa_cons ha hr hs) fun σ H Q hX11_ => by
  obtain ⟨F,α,e,μ,S,h⟩:=hX11_
  rw [dArgs_cons] at h
  refine ⟨F,α,e,μ,S,(R.wp_bind h).mono (fun x μ1 h v H1 F1 α1 x1 S1 o1 => ⟨F1,α1,e,μ1,S1,?_⟩) fun _ _ h => h⟩
  refine (R.wp_bind h).mono (fun xs μ2 h vs H2 F2 α2 x2 S2 o2 => ?_) fun _ _ h => h.mono x1
  exact h (v :: vs) H2 F2 α2 (x1.trans x2) S2 (.cons (o1.mono x2.same x2.pre) o2)
theorem dArgs_len:∀ {ds:List D} {e:Slots} {μ μ':Store} {xs:List SV},dArgs ds e μ = .ok xs μ' → xs.length = ds.length
 | [],e,μ,μ',xs,h => by cases h; rfl
 | d :: ds,e,μ,μ',xs,h => by
  rw [dArgs_cons] at h
  obtain ⟨x,μ1,hx,h⟩:=R.bind_eq_ok h
  obtain ⟨ys,μ2,hy,h⟩:=R.bind_eq_ok h
  cases h
  rw [List.length_cons,List.length_cons,dArgs_len hy]
theorem dArgs_wp_len {ds:List D} {e:Slots} {μ:Store} {Q:List SV → Store → Prop} {E:T → Store → Prop} (h:(dArgs ds e μ).wp Q E):(dArgs ds e μ).wp (fun xs μ' => xs.length = ds.length ∧ Q xs μ') E:=by
 cases q:dArgs ds e μ with
 | ok xs μ' => rw [q] at h; exact ⟨dArgs_len q,h⟩
 | err c μ' => rw [q] at h; exact h
 | bad => rw [q] at h; exact h
theorem small_len {n:Nat} {xs:List SV} {vs:List V} {P:V → SV → Prop} (h:xs.length = n) (o:Paired P vs xs) (hl:n ≤ 1000):vs.length ≤ sizeLine:=by
 have e1:=o.length
 exact Nat.le_of_lt (small1000 (by lia))
theorem ce_tup {es:List Expr} {ds:List D} {x1} (h:CA X es ds) (hl:ds.length ≤ 1000:=by decide):CE X (.Tuple es x1 pos) (dTup ds) :=
 PE.imp (pe_tup h) fun σ H Q hX11_ => by
  obtain ⟨F,α,e,μ,S,h⟩:=hX11_
  refine ⟨F,α,e,μ,S,(dArgs_wp_len (R.wp_bind h)).mono (fun xs μ1 hX21_ vs H1 F1 α1 x1 S1 o1 => ?_) fun _ _ h => h⟩
  obtain ⟨hn,h⟩:=hX21_
  have h:=R.wp_bind h
  cases hz:frzs xs μ1 with
  | err c μ2 =>
   exact absurd hz (frzs_no xs μ1 c μ2)
  | bad => rw [hz] at h; exact h.elim
  | ok ts μ2 =>
   rw [hz] at h
   obtain ⟨F2,s2,n2,S2,r2⟩:=frzs_ok S1.st o1 hz
   refine ⟨small_len hn o1 hl,fun p hp => ?_⟩
   have g:Grow F2 H1 (upd F2 p (.tup vs)) (upd H1 p (.tup vs)):=Grow.new hp
   refine h _ _ (upd F2 p (.tup vs)) α1 (x1.trans ((Ex.of_ne s2 n2).trans (g.ex S2.ext))) ((S1.of s2 (List.prefix_refl _) S2).grow g) ?_
   show Rep X.K _ (.tup ts) _
   rw [Rep]
   exact ⟨p,vs,rfl,SqT.of upd_same,RepL.mono (g.same S2.ext) _ _ r2⟩
noncomputable def tF (X:Cx) (d:D):TE:=fun σ H Q => ∃ F α e μ,Sim X.K F α e μ σ H ∧ (d e μ).wp (fun x μ' => ∃ t,x = .val t ∧
 ∀ p H' F' α',Ex F α H F' α' H' → Sim X.K F' α' e μ' σ H' → H p = none → F' p = none → p ∉ α' → CellOk X.K F' H' p t → Q (.ref p) H') (XPost X F α H e)
noncomputable def CF (X:Cx) (e:Expr) (d:D):Prop:=PE X e (tF X d) ∧ ∀ e μ x μ',d e μ = .ok x μ' → ∃ t,x = .val t
theorem R.wp_val {P:SV → Store → Prop} {r:R SV} {E:T → Store → Prop} (h:r.wp P E):r.wp (fun x μ => r = .ok x μ ∧ P x μ) E:=by
 cases r with
 | ok a μ => exact ⟨rfl,h⟩
 | err c μ => exact h
 | bad => exact h
theorem ice_read {σ:St} {H:Hp} {Q:VK} (h2:∀ e μ x μ',da e μ = .ok x μ' → ∃ t,x = .val t) (h:tD X da σ H Q):tF X da σ H Q:=by
 obtain ⟨F,α,e,μ,S,hd⟩:=h
 refine ⟨F,α,e,μ,S,(R.wp_val hd).mono (fun x μ' hX11_ => ?_) fun _ _ h => h⟩
 obtain ⟨hx,post⟩:=hX11_
 obtain ⟨t,rfl⟩:=h2 e μ x μ' hx
 refine ⟨t,rfl,fun p H1 F1 α1 x1 S1 h0 hp hn c => ?_⟩
 obtain ⟨o,ho⟩:=c.there
 have s2:Same F1 (upd F1 p o):=fun b z hz => by
  rw [upd_ne (fun q => by subst q; rw [hp] at hz; cases hz)]; exact hz
 have st:StOk X.K (upd F1 p o) α1 μ' H1:=by
  refine ⟨fun b z hz => ?_,S1.st.len,S1.st.nd,S1.st.there,fun k b u a' h1 h2 => ?_⟩
  ·by_cases eb:b = p
   ·subst eb; rw [upd_same] at hz; cases hz; exact ho
   ·rw [upd_ne eb] at hz; exact S1.st.ext b z hz
  ·have na:a' ≠ p:=fun q => by subst q; exact hn (List.mem_of_getElem? h2)
   obtain ⟨c1,c2⟩:=S1.st.cell k b u a' h1 h2
   refine ⟨fun hb => ⟨by rw [upd_ne na]; exact (c1 hb).1,?_⟩,fun hb => Rep.mono s2 _ _ (c2 hb)⟩
   have d2:=(c1 hb).2
   cases u with
   | lst ts => obtain ⟨vs,w1,w2⟩:=d2; exact ⟨vs,w1,RepL.mono s2 _ _ w2⟩
   | dct ts => obtain ⟨vs,w1,w2⟩:=d2; exact ⟨vs,w1,RepD.mono s2 _ _ w2⟩
   | _ => exact d2.elim
 refine post _ _ (upd F1 p o) α1 (x1.ice h0 hp) (S1.of s2 (List.prefix_refl _) st) ?_
 show Rep X.K _ t _
 cases t with
 | lst ts => obtain ⟨vs,w1,w2⟩:=c; rw [w1] at ho; cases ho; rw [Rep]; exact ⟨p,vs,rfl,SqL.of upd_same,RepL.mono s2 _ _ w2⟩
 | dct ts => obtain ⟨vs,w1,w2⟩:=c; rw [w1] at ho; cases ho; rw [Rep]; exact ⟨p,vs,rfl,upd_same,RepD.mono s2 _ _ w2⟩
 | _ => exact c.elim
theorem CF.ce (h:CF X a da):CE X a da:=PE.imp h.1 fun σ H Q q => ice_read h.2 q
theorem cell_read {σ:St} {H:Hp} {Q:VK} (h2:∀ e μ x μ',da e μ = .ok x μ' → ∃ t,x = .val t) (h:tD X (dCell da) σ H Q):tF X da σ H Q:=by
 obtain ⟨F,α,e,μ,S,hd⟩:=h
 rw [dCell_is] at hd
 refine ⟨F,α,e,μ,S,(R.wp_val (R.wp_bind hd)).mono (fun x μ1 hX11_ => ?_) fun _ _ h => h⟩
 obtain ⟨hx,post⟩:=hX11_
 obtain ⟨t,rfl⟩:=h2 e μ x μ1 hx
 refine ⟨t,rfl,fun p H1 F1 α1 x1 S1 h0 hp hn c => ?_⟩
 obtain ⟨o,ho⟩:=c.there
 have hend:∀ {k:Nat} {a:Addr},(α1 ++ [p])[k]? = some a → (k < α1.length ∧ α1[k]? = some a) ∨ (k = α1.length ∧ a = p):=fun {k a} h => by
  by_cases hk:k < α1.length
  ·rw [List.getElem?_append_left hk] at h; exact .inl ⟨hk,h⟩
  ·rw [List.getElem?_append_right (by lia)] at h
   by_cases h0:k - α1.length = 0
   ·rw [h0] at h; simp at h; exact .inr ⟨by lia,h.symm⟩
   ·rw [List.getElem?_eq_none (by simp; lia)] at h; cases h
 have st:StOk X.K F1 (α1 ++ [p]) (μ1 ++ [(true,t)]) H1:=by
  refine ⟨S1.st.ext,by simp [S1.st.len],?_,fun k a h => ?_,fun k b u a h1 h2 => ?_⟩
  ·rw [List.nodup_append]
   refine ⟨S1.st.nd,by simp,fun a ha b hb => ?_⟩
   simp at hb
   subst hb
   exact fun q => hn (by rw [← q]; exact ha)
  ·rcases hend h with ⟨_,g⟩ | ⟨_,rfl⟩
   ·exact S1.st.there k a g
   ·exact ⟨o,ho⟩
  ·rcases hend h2 with ⟨hk,g⟩ | ⟨hk,rfl⟩
   ·rw [List.getElem?_append_left (by rw [← S1.st.len]; exact hk)] at h1
    exact S1.st.cell k b u a h1 g
   ·rw [hk,S1.st.len] at h1
    simp at h1
    obtain ⟨rfl,rfl⟩:=h1
    exact ⟨fun _ => ⟨hp,c⟩,fun z => (by cases z)⟩
 refine post _ _ F1 (α1 ++ [p]) (x1.more h0) (S1.of (Same.refl _) (List.prefix_append _ _) st) ⟨p,?_,rfl⟩
 rw [List.getElem?_append_right (by rw [S1.st.len]; exact Nat.le_refl _),S1.st.len]
 simp
theorem CF.cell (h:CF X a da):CE X a (dCell da):=PE.imp h.1 fun σ H Q q => cell_read h.2 q
theorem not_mem_of_none {K:PySem.W.Frag} {F H:Hp} {α:List Addr} {μ:Store} {p:Addr} (S:StOk K F α μ H) (h:H p = none):p ∉ α:=fun hm => by
 obtain ⟨k,hk⟩:=List.mem_iff_getElem?.mp hm
 obtain ⟨o,ho⟩:=S.there k p hk
 rw [h] at ho; cases ho
theorem StOk.lay {K:PySem.W.Frag} {F H:Hp} {α:List Addr} {μ:Store} {p:Addr} {o:HO} (S:StOk K F α μ H) (h:H p = none):StOk K F α μ (upd H p o):=by
 have hup:∀ c z,H c = some z → (upd H p o) c = some z:=fun c z hz => by
  rw [upd_ne (fun q => by subst q; rw [h] at hz; cases hz)]; exact hz
 refine ⟨fun a z hz => hup _ _ (S.ext a z hz),S.len,S.nd,fun k a g => ?_,fun k b u a h1 h2 => ?_⟩
 ·obtain ⟨z,hz⟩:=S.there k a g
  exact ⟨z,hup _ _ hz⟩
 ·obtain ⟨c1,c2⟩:=S.cell k b u a h1 h2
  refine ⟨fun hb => ⟨(c1 hb).1,?_⟩,c2⟩
  have d2:=(c1 hb).2
  cases u with
  | lst ts => obtain ⟨vs,w1,w2⟩:=d2; exact ⟨vs,hup _ _ w1,w2⟩
  | dct ts => obtain ⟨vs,w1,w2⟩:=d2; exact ⟨vs,hup _ _ w1,w2⟩
  | _ => exact d2.elim
theorem cf_lst {es:List Expr} {ds:List D} (h:CA X es ds) (hl:ds.length ≤ 1000:=by decide):CF X (.List es pos) (dLst ds) :=
 ⟨PE.imp (pe_lst h) fun σ H Q hX11_ => by
  obtain ⟨F,α,e,μ,S,h⟩:=hX11_
  refine ⟨F,α,e,μ,S,(dArgs_wp_len (R.wp_bind h)).mono (fun xs μ1 hX21_ vs H1 F1 α1 x1 S1 o1 => ?_) fun _ _ h => h⟩
  obtain ⟨hn,h⟩:=hX21_
  have h:=R.wp_bind h
  cases hz:frzs xs μ1 with
  | err c μ2 =>
   exact absurd hz (frzs_no xs μ1 c μ2)
  | bad => rw [hz] at h; exact h.elim
  | ok ts μ2 =>
   rw [hz] at h
   obtain ⟨t,e1,post⟩:=h
   cases e1
   obtain ⟨F2,s2,n2,S2,r2⟩:=frzs_ok S1.st o1 hz
   refine ⟨small_len hn o1 hl,fun p hp => ?_⟩
   exact post p _ F2 α1 (x1.trans ((Ex.of_ne s2 n2).trans (Ex.lay hp))) (S1.of s2 (List.prefix_refl _) (S2.lay hp)) (x1.was S1.st hp) (S2.ext.free hp) (not_mem_of_none S2 hp) ⟨vs,upd_same,r2⟩,
 fun e μ x μ' h => by
  unfold dLst at h
  obtain ⟨xs,μ1,hx,h⟩:=R.bind_eq_ok h
  obtain ⟨ts,μ2,hz,h⟩:=R.bind_eq_ok h
  cases h
  exact ⟨_,rfl⟩⟩
theorem dUn_val {f:T → Option T} {e:Slots} {μ μ':Store} {x:SV} (h:dUn f da e μ = .ok x μ'):∃ t,x = .val t:=by
 unfold dUn at h
 obtain ⟨x,μ1,hx,h⟩:=R.bind_eq_ok h
 obtain ⟨h9,rfl⟩:=R.lift_eq_ok h
 obtain ⟨t,w',ht,h,rfl⟩:=ap1_eq h9
 exact ⟨_,rfl⟩
theorem args1 {σ:St} {H:Hp} {Q:List V → Hp → Prop} (h:tD X da σ H fun v H' => Q [v] H'):tDA X [da] σ H Q:=by
 obtain ⟨F,α,e,μ,S,h⟩:=h
 refine ⟨F,α,e,μ,S,?_⟩
 rw [dArgs_cons]
 cases q:da e μ with
 | err c μ1 => rw [q] at h; exact h
 | bad => rw [q] at h; exact h
 | ok x μ1 =>
  rw [q] at h
  intro vs H1 F1 α1 x1 S1 o1
  cases o1 with
  | cons o1 o2 => cases o2; exact h _ H1 F1 α1 x1 S1 o1
theorem call1 {r:List V → Hp → VK → Prop} {f:T → Option T} (hs:CallSem1 X.K r f) (σ:St) (H:Hp) (Q:VK) (h:tD X (dUn f da) σ H Q):tCB r (tDA X [da]) σ H Q :=
 args1 (one (r:=fun v H Q => r [v] H Q) hs σ H Q h)
theorem call1F {r:List V → Hp → VK → Prop} {f:T → Option T} (hs:CallSemF X.K r f) (σ:St) (H:Hp) (Q:VK) (h:tF X (dUn f da) σ H Q):tCB r (tDA X [da]) σ H Q:=by
 refine args1 ?_
 obtain ⟨F,α,e,μ,S,h⟩:=h
 refine ⟨F,α,e,μ,S,?_⟩
 refine (R.wp_bind h).mono (fun x μ1 h v H1 F1 α1 x1 S1 o1 => ?_) fun _ _ h => h
 obtain ⟨w,h9,t',e1,post⟩:=R.wp_lift h
 obtain ⟨t,w',ht,h,e2⟩:=ap1_eq h9
 subst e1
 cases e2
 exact hs F1 H1 _ t _ Q S1.st.ext (now_of S1.st o1 ht) h fun p o hp c =>
  post p _ F1 α1 (x1.trans (Ex.lay hp)) (S1.of (Same.refl _) (List.prefix_refl _) (S1.st.lay hp)) (x1.was S1.st hp) (S1.st.ext.free hp) (not_mem_of_none S1.st hp) c
end
end Fw
namespace Fw
open PySem L2
theorem asB_eq {x:SV} {k:Bool} (h:asB x = some k):x = .val (.bl k):=by
 cases x with
 | val t => cases t <;> first | (cases h; rfl) | cases h
 | cel j => cases h
 | box xs => cases h
theorem wp_test {β:Type} {r:R SV} {f:Bool → Store → R β} {Q:β → Store → Prop} {E:T → Store → Prop} (h:(r.bind fun y μ1 => (R.lift (asB y) μ1).bind f).wp Q E) :
  r.wp (fun x μ => ∃ k,x = .val (.bl k) ∧ (f k μ).wp Q E) E:=(R.wp_bind h).mono (fun x μ h => by
 obtain ⟨k,hk,h⟩:=R.wp_lift (R.wp_bind h)
 exact ⟨k,asB_eq hk,h⟩) fun _ _ h => h
noncomputable def CW (X:Cx) (e:Expr) (d:D):Prop:=PW X e (tDT X d)
theorem PW.imp {X:Cx} {e:Expr} {t t':TT} (h:PW X e t) (i:∀ σ H Q,t' σ H Q → t σ H Q):PW X e t':=fun whole pins s σ H Q I q => h whole pins s σ H Q I (i σ H Q q)
theorem tD_of_tDT {X:Cx} {d:D} {σ:St} {H:Hp} {Q:Bool → Hp → Prop} (h:tDT X d σ H Q):tD X d σ H fun x H' => ∃ k,x = .bl k ∧ Q k H':=by
 obtain ⟨F,α,e,μ,S,h⟩:=h
 refine ⟨F,α,e,μ,S,h.mono (fun x μ' hX11_ v H' F' α' y S' o => ?_) fun _ _ h => h⟩
 obtain ⟨b,hb,post⟩:=hX11_
 subst hb
 exact ⟨b,Rep.of_bl (K:=X.K) (F:=F') o,post H' F' α' y S'⟩
section
variable {X:Cx} {a b c:Expr} {da db dc:D} {pos:Pos} {rest:List Expr}
theorem ct_val (h:CE X a da) (he:∀ whole,isTrue a X.env whole = (do let v ← whole; standAt a.pos; holding [v] (truthy v)):=by intro _; rfl):CT X a da :=
 PT.imp (pt_val h he) fun σ H Q q => tD_of_tDT q
theorem ct_cmp {op:CmpOp} {r:R2} {f:T → T → Option T} (ho:OpR X (compareOp op) r) (hs:OpSem X.K r f) (hm:behindInMarks op b = false) (ha:CE X a da) (hb:CE X b db):CT X (.Compare a [op] [b] pos) (dBin f da db) :=
 PT.imp (pt_cmpR ho ha hb hm) fun σ H Q q => two hs σ H _ (tD_of_tDT q)
theorem ct_not (h:CT X a da):CT X (.UnaryOp .Not a pos) (dNot da):=PT.imp (pt_not h) fun σ H Q hX11_ => by
 obtain ⟨F,α,e,μ,S,h⟩:=hX11_
 refine ⟨F,α,e,μ,S,(wp_test h).mono (fun x μ1 ⟨k,hx,b,hb,h⟩ => ⟨k,hx,?_⟩) fun _ _ h => h⟩
 cases hb
 exact h
theorem cw_one_and (h:CT X a da):CW X (.BoolOp .And [a] pos) da:=pw_and1 h
theorem cw_one_or (h:CT X a da):CW X (.BoolOp .Or [a] pos) da:=pw_or1 h
theorem CW.ct (h:CW X a da):CT X a da:=PW.pt h
theorem cw_and (ha:CT X a da) (hb:CW X (.BoolOp .And (b :: rest) pos) db):CW X (.BoolOp .And (a :: b :: rest) pos) (dAnd da db) :=
 PW.imp (pw_and ha hb) fun σ H Q hX11_ => by
  obtain ⟨F,α,e,μ,S,h⟩:=hX11_
  refine ⟨F,α,e,μ,S,(wp_test h).mono (fun x μ1 ⟨k,hx,h⟩ => ⟨k,hx,fun H1 F1 α1 x1 S1 => ?_⟩) fun _ _ h => h⟩
  cases k with
  | true =>
   rw [if_pos rfl] at h ⊢
   exact ⟨F1,α1,e,μ1,S1,h.mono (fun y μ2 ⟨b,hb,h⟩ => ⟨b,hb,fun H2 F2 α2 x2 S2 => h H2 F2 α2 (x1.trans x2) S2⟩) fun _ _ h => h.mono x1⟩
  | false =>
   rw [if_neg Bool.false_ne_true] at h ⊢
   obtain ⟨b,hb,h⟩:=h
   cases hb
   exact h H1 F1 α1 x1 S1
theorem cw_or (ha:CT X a da) (hb:CW X (.BoolOp .Or (b :: rest) pos) db):CW X (.BoolOp .Or (a :: b :: rest) pos) (dOr da db) :=
 PW.imp (pw_or ha hb) fun σ H Q hX11_ => by
  obtain ⟨F,α,e,μ,S,h⟩:=hX11_
  refine ⟨F,α,e,μ,S,(wp_test h).mono (fun x μ1 ⟨k,hx,h⟩ => ⟨k,hx,fun H1 F1 α1 x1 S1 => ?_⟩) fun _ _ h => h⟩
  cases k with
  | true =>
   rw [if_pos rfl] at h ⊢
   obtain ⟨b,hb,h⟩:=h
   cases hb
   exact h H1 F1 α1 x1 S1
  | false =>
   rw [if_neg Bool.false_ne_true] at h ⊢
   exact ⟨F1,α1,e,μ1,S1,h.mono (fun y μ2 ⟨b,hb,h⟩ => ⟨b,hb,fun H2 F2 α2 x2 S2 => h H2 F2 α2 (x1.trans x2) S2⟩) fun _ _ h => h.mono x1⟩
theorem ce_one {op} (h:CE X a da):CE X (.BoolOp op [a] pos) da:=pe_one h
theorem ce_and (ha:CE X a da) (hb:CE X (.BoolOp .And (b :: rest) pos) db):CE X (.BoolOp .And (a :: b :: rest) pos) (dAnd da db) :=
 PE.imp (pe_and ha hb) fun σ H Q hX11_ => by
  obtain ⟨F,α,e,μ,S,h⟩:=hX11_
  refine ⟨F,α,e,μ,S,(wp_test h).mono (fun x μ1 hX21_ v H1 F1 α1 x1 S1 o1 => ?_) fun _ _ h => h⟩
  obtain ⟨k,hx,h⟩:=hX21_
  subst hx
  refine ⟨k,Rep.of_bl (K:=X.K) (F:=F1) o1,?_⟩
  cases k with
  | true =>
   rw [if_pos rfl] at h ⊢
   exact ⟨F1,α1,e,μ1,S1,h.mono (fun y μ2 h v H2 F2 α2 x2 S2 o2 => h v H2 F2 α2 (x1.trans x2) S2 o2) fun _ _ h => h.mono x1⟩
  | false =>
   rw [if_neg Bool.false_ne_true] at h ⊢
   exact h _ H1 F1 α1 x1 S1 (Rep.bl' (K:=X.K) (F:=F1) _)
theorem ce_not (ha:CE X a da):CE X (.UnaryOp .Not a pos) (dNot da):=PE.imp (pe_not ha) fun σ H Q hX11_ => by
 obtain ⟨F,α,e,μ,S,h⟩:=hX11_
 refine ⟨F,α,e,μ,S,(wp_test h).mono (fun x μ1 hX21_ v H1 F1 α1 x1 S1 o1 => ?_) fun _ _ h => h⟩
 obtain ⟨k,hx,h⟩:=hX21_
 subst hx
 refine ⟨k,Rep.of_bl (K:=X.K) (F:=F1) o1,?_⟩
 exact h _ H1 F1 α1 x1 S1 (Rep.bl' (K:=X.K) (F:=F1) _)
end
noncomputable def PostS (X:Cx) (F:Hp) (α:List Addr) (H:Hp) (D:Ends):RS → Prop
 | .nx e' μ' => ∀ σ' H' F' α',Ex F α H F' α' H' → Sim X.K F' α' e' μ' σ' H' → D.nx σ' H'
 | .rt x μ' => ∀ v H' F' α',Ex F α H F' α' H' → StOk X.K F' α' μ' H' → SvOk X.K F' α' v x → D.rt v H'
 | .bk e' μ' => ∀ σ' H' F' α',Ex F α H F' α' H' → Sim X.K F' α' e' μ' σ' H' → D.bk σ' H'
 | .ct e' μ' => ∀ σ' H' F' α',Ex F α H F' α' H' → Sim X.K F' α' e' μ' σ' H' → D.ct σ' H'
 | .err c e' μ' => XPost X F α H e' c μ'
 | .bad => False
theorem PostS.mono {X:Cx} {F F' H H':Hp} {α α':List Addr} {D:Ends} {r:RS} (x:Ex F α H F' α' H') (h:PostS X F α H D r):PostS X F' α' H' D r:=by
 cases r with
 | nx e μ => exact fun σ H F2 α2 x2 => h σ H F2 α2 (x.trans x2)
 | rt y μ => exact fun σ H F2 α2 x2 => h σ H F2 α2 (x.trans x2)
 | bk e μ => exact fun σ H F2 α2 x2 => h σ H F2 α2 (x.trans x2)
 | ct e μ => exact fun σ H F2 α2 x2 => h σ H F2 α2 (x.trans x2)
 | err c e μ => exact XPost.mono x h
 | bad => exact h
noncomputable def tDS (X:Cx) (d:DS):TS:=fun D σ H => ∃ F α e μ,Sim X.K F α e μ σ H ∧ PostS X F α H D (d e μ)
noncomputable def CS (X:Cx) (st:Stmt) (d:DS):Prop:=PS X st (tDS X d)
noncomputable def CSs (X:Cx) (st:List Stmt) (d:DS):Prop:=PSs X st (tDS X d)
theorem PostS.toS {α':Type} {X:Cx} {F H:Hp} {α:List Addr} {D:Ends} {x:R α'} {e:Slots} {f:α' → Store → RS} (h:PostS X F α H D (x.toS e f)):x.wp (fun a μ => PostS X F α H D (f a μ)) (XPost X F α H e):=by
 cases x with
 | ok a μ => exact h
 | err c μ => exact h
 | bad => exact h
theorem PostS.lift {α':Type} {X:Cx} {F H:Hp} {α:List Addr} {D:Ends} {o:Option α'} {μ:Store} {e:Slots} {f:α' → Store → RS} (h:PostS X F α H D ((R.lift o μ).toS e f)):∃ a,o = some a ∧ PostS X F α H D (f a μ):=R.wp_lift h.toS
theorem PostS.asB {X:Cx} {F H:Hp} {α:List Addr} {D:Ends} {x:R SV} {e:Slots} {f:Bool → Store → RS} (h:PostS X F α H D (x.toS e fun y μ1 => (R.lift (Fw.asB y) μ1).toS e f)):x.wp (fun y μ1 => ∃ k,y = .val (.bl k) ∧ PostS X F α H D (f k μ1)) (XPost X F α H e) :=
 h.toS.mono (fun y μ h => by
  obtain ⟨k,hk,h⟩:=h.lift
  exact ⟨k,asB_eq hk,h⟩) fun _ _ h => h
section
variable {X:Cx} {st:Stmt} {sts:List Stmt} {d d1 d2:DS} {e:Expr} {de:D} {pos:Pos}
theorem css_nil:CSs X [] sNil:=PSs.imp pss_nil fun D σ H ⟨F,α,e,μ,S,h⟩ => h σ H F α Ex.refl S
theorem css_one (h:CS X st d):CSs X [st] d:=pss_one h
theorem css_cons (h1:CS X st d1) (h2:CSs X sts d2):CSs X (st :: sts) (sSeq d1 d2):=PSs.imp (pss_cons h1 h2) fun D σ H hX11_ => by
 obtain ⟨F,α,e,μ,S,h⟩:=hX11_
 refine ⟨F,α,e,μ,S,?_⟩
 unfold sSeq at h
 cases q:d1 e μ with
 | nx e1 μ1 =>
  rw [q] at h
  exact fun σ' H' F' α' x S' => ⟨F',α',e1,μ1,S',h.mono x⟩
 | rt x μ1 => rw [q] at h; exact h
 | bk e1 μ1 => rw [q] at h; exact h
 | ct e1 μ1 => rw [q] at h; exact h
 | err c e1 μ1 => rw [q] at h; exact h
 | bad => rw [q] at h; exact h
theorem cs_ret (he:CE X e de):CS X (.Return (some e) pos) (sRet de):=PS.imp (ps_ret he) fun D σ H ⟨F,α,e,μ,S,h⟩ =>
 ⟨F,α,e,μ,S,(PostS.toS h).mono (fun x μ1 h v H1 F1 α1 x1 S1 o1 => h v H1 F1 α1 x1 S1.st o1) fun _ _ h => h⟩
theorem slot_set {e:Slots} {i j:Nat} {x y:SV} (h:slot (e.set i (some x)) j = some y):(j = i ∧ y = x) ∨ slot e j = some y:=by
 unfold slot at h
 by_cases q:i = j
 ·subst q
  by_cases hl:i < e.length
  ·rw [List.getElem?_set_self hl] at h
   cases h
   exact .inl ⟨rfl,rfl⟩
  ·rw [List.getElem?_eq_none (by rw [List.length_set]; omega)] at h
   cases h
 ·rw [List.getElem?_set_ne q] at h
  exact .inr h
theorem Sim.set {K:PySem.W.Frag} {F H:Hp} {α:List Addr} {e:Slots} {μ:Store} {σ:St} {v:V} {x:SV} {i:Nat} (S:Sim K F α e μ σ H) (o:SvOk K F α v x):Sim K F α (e.set i (some x)) μ (σ.set i (some v)) H:=by
 refine ⟨S.st,fun j y h => ?_,by rw [List.length_set,List.length_set,S.len]⟩
 by_cases q:i = j
 ·subst q
  have hl:i < e.length:=by
   unfold slot at h
   by_cases hl:i < e.length
   ·exact hl
   ·rw [List.getElem?_eq_none (by rw [List.length_set]; omega)] at h
    cases h
  have hy:y = x:=by
   unfold slot at h
   rw [List.getElem?_set_self hl] at h
   cases h; rfl
  subst hy
  exact ⟨v,by rw [List.getElem?_set_self (by rw [← S.len]; exact hl)],o⟩
 ·rcases slot_set h with ⟨rfl,_⟩ | h
  ·exact absurd rfl q
  ·obtain ⟨w,h1,h2⟩:=S.sl j y h
   exact ⟨w,by rw [List.getElem?_set_ne q]; exact h1,h2⟩
theorem cs_set (i:Nat) {x:Str} {pos':Pos} (hN:X.N.Nodup) (he:CE X e de) (hi:X.N[i]? = some x:=by rfl) (hx:Loc X.env.scope x:=by first | exact Or.inl rfl | exact Or.inr rfl) (hs:swapsWith e (some (.Name x pos')) pos.line X.env = pure false:=by rfl)
  (hf:X.fn x = true ∨ X.env.scope.names.lookup x = some .local:=by first | exact .inl rfl | exact .inr rfl | assumption):CS X (.Assign [.Name x pos'] e pos) (sSet i de) :=
 PS.imp (ps_set hN hi hx he hs hf) fun D σ H ⟨F,α,e,μ,S,h⟩ =>
  ⟨F,α,e,μ,S,(PostS.toS h).mono (fun x μ1 h v H1 F1 α1 x1 S1 o1 => h _ H1 F1 α1 x1 (S1.set o1)) fun _ _ h => h⟩
theorem cs_if {c:Expr} {as bs:List Stmt} {dc:D} (hc:CT X c dc) (ha:CSs X as d1) (hb:CSs X bs d2):CS X (.If c as bs pos) (sIf dc d1 d2):=PS.imp (ps_if hc ha hb) fun D σ H hX11_ => by
 obtain ⟨F,α,e,μ,S,h⟩:=hX11_
 refine ⟨F,α,e,μ,S,(PostS.asB h).mono (fun x μ1 ⟨k,hk,h⟩ => ⟨k,hk,fun H1 F1 α1 x1 S1 => ?_⟩) fun _ _ h => h⟩
 cases k with
 | true => exact ⟨F1,α1,e,μ1,S1,PostS.mono x1 h⟩
 | false => exact ⟨F1,α1,e,μ1,S1,PostS.mono x1 h⟩
theorem cs_bad:CS X st sBad:=PS.imp ps_never fun D σ H ⟨F,α,e,μ,S,h⟩ => h
end
end Fw
namespace Fw
open PySem PySem.Spec PyProof.Rows L2
noncomputable def ItOk (K:PySem.W.Frag) (F:Hp) (α:List Addr) (J:It) (W:Wk):Prop:=∀ F2 α2 μ2 H2,Same F F2 → α <+: α2 → StOk K F2 α2 μ2 H2 → W.same μ2 →
 (∀ i t,W.items[i]? = some t → J.go i H2 ∧ ∀ x H3,J.yld i H2 x H3 → ∃ F3,Grow F2 H2 F3 H3 ∧ Rep K F3 t x) ∧ J.stop W.items.length H2
noncomputable def tDI (X:Cx) (d:DI):TI:=fun σ H R => ∃ F α e μ,Sim X.K F α e μ σ H ∧ (d e μ).wp (fun W μ' =>
 ∀ J H' F' α',Ex F α H F' α' H' → Sim X.K F' α' e μ' σ H' → ItOk X.K F' α' J W → R J H') (XPost X F α H e)
noncomputable def CI (X:Cx) (tg e:Expr) (d:DI):Prop:=PI X tg e (tDI X d)
theorem PI.imp {X:Cx} {tg e:Expr} {t t':TI} (h:PI X tg e t) (i:∀ σ H R,t' σ H R → t σ H R):PI X tg e t':=fun pins s σ H R I q => h pins s σ H R I (i σ H R q)
noncomputable def iBoth (K:PySem.W.Frag) (tl:TE):TI:=fun σ H R => tl σ H fun x H1 => ∃ a,x = .ref a ∧ (((∃ xs,SqL K H1 a xs) ∧ R (Itl K a) H1) ∨ ((∃ xs,SqT K H1 a xs) ∧ R (Itt K a) H1))
section
variable {X:Cx} {tg:Expr}
theorem pi_both {l:Expr} {tl:TE} (hl:PE X l tl):PI X tg l (iBoth X.K tl):=by
 intro pins s σ H R I h
 refine thn (hl pins s σ H _ I h) fun v s1 hX11_ => ?_
 obtain ⟨x,H1,I1,r1,q1⟩:=hX11_
 obtain ⟨a,e,q⟩:=q1
 subst e
 cases r1
 rcases q with ⟨⟨xs,hq⟩,q⟩ | ⟨⟨xs,hq⟩,q⟩
 ·obtain ⟨its,rv,p,hz⟩:=I1.list hq
  refine wpAny_pyIter_list p.isList ?_
  refine ⟨s1.heap.objs.size,[s1.heap.objs.size],_,_,H1,rfl,I1.kept (t':=s1.toks) fun b o e => Heap.get?_push_of_some _ e,turn_list a _,⟨_,Heap.get?_push_size _ rfl,rfl,rfl⟩,fun b hb => ?_,q⟩
  have e:b = s1.heap.objs.size:=by simpa using hb
  subst e
  exact I1.fpOk (Nat.le_refl _) (I1.hok.fresh (Nat.le_refl _))
 ·obtain ⟨its,rv,p,hz⟩:=I1.tuple hq
  refine wpAny_pyIter_tuple (show s1.heap.IsTuple a its.toArray from p) ?_
  refine ⟨s1.heap.objs.size,[s1.heap.objs.size],_,_,H1,rfl,I1.kept (t':=s1.toks) fun b o e => Heap.get?_push_of_some _ e,turn_tuple a _,⟨_,Heap.get?_push_size _ rfl,rfl,rfl⟩,fun b hb => ?_,q⟩
  have e:b = s1.heap.objs.size:=by simpa using hb
  subst e
  exact I1.fpOk (Nat.le_refl _) (I1.hok.fresh (Nat.le_refl _))
theorem ci_seq {a:Expr} {da:D} (h:CE X a da):CI X tg a (iSeq da):=PI.imp (pi_both h) fun σ H R0 hX11_ => by
 obtain ⟨F,α,e,μ,S,h⟩:=hX11_
 refine ⟨F,α,e,μ,S,(R.wp_bind h).mono (fun x μ1 h v H1 F1 α1 x1 S1 o1 => ?_) fun _ _ h => h⟩
 obtain ⟨ts,ht,post⟩:=R.wp_lift (R.wp_bind h)
 obtain ⟨t,hr,ht⟩:=Option.bind_eq_some_iff.mp ht
 have n1:=now_of S1.st o1 hr
 cases t with
 | lst us =>
  cases ht
  obtain ⟨a,vs,rfl,hq,hl⟩:=n1
  refine ⟨a,rfl,.inl ⟨⟨vs,hq⟩,post _ H1 F1 α1 x1 S1 fun F2 α2 μ2 H2 s2 p2 S2 same => ?_⟩⟩
  obtain ⟨a',vs',e1,hq2,hl2⟩:=now_of S2 (o1.mono s2 p2) ((show rd μ2 x = rd μ1 x from same).trans hr)
  cases e1
  refine ⟨fun i t hi => ?_,⟨vs',hq2,by rw [← hl2.length]; exact Nat.le_refl _⟩⟩
  obtain ⟨v,hv,rv⟩:=hl2.get hi
  exact ⟨⟨vs',v,hq2,hv⟩,fun y H3 hX21_ => by
   obtain ⟨e3,hy⟩:=hX21_
   subst e3
   have:=hy vs' hq2
   rw [hv] at this; cases this
   exact ⟨F2,Grow.refl,rv⟩⟩
 | tup us =>
  cases ht
  obtain ⟨a,vs,rfl,hq,hl⟩:=n1
  refine ⟨a,rfl,.inr ⟨⟨vs,Same.seqT S1.st.ext hq⟩,post _ H1 F1 α1 x1 S1 fun F2 α2 μ2 H2 s2 p2 S2 same => ?_⟩⟩
  obtain ⟨a',vs',e1,hq2,hl2⟩:=now_of S2 (o1.mono s2 p2) ((show rd μ2 x = rd μ1 x from same).trans hr)
  have hq2:=Same.seqT S2.ext hq2
  cases e1
  refine ⟨fun i t hi => ?_,⟨vs',hq2,by rw [← hl2.length]; exact Nat.le_refl _⟩⟩
  obtain ⟨v,hv,rv⟩:=hl2.get hi
  exact ⟨⟨vs',v,hq2,hv⟩,fun y H3 hX31_ => by
   obtain ⟨e3,hy⟩:=hX31_
   subst e3
   have:=hy vs' hq2
   rw [hv] at this; cases this
   exact ⟨F2,Grow.refl,rv⟩⟩
 | _ => cases ht
theorem intsT_get:∀ {n:Nat} {lo:Int} {i:Nat} {t:T},(intsT lo n)[i]? = some t → i < n ∧ t = .int (lo + i)
 | 0,lo,i,t,h => by simp [intsT] at h
 | n + 1,lo,0,t,h => by
  simp [intsT] at h
  subst h
  exact ⟨Nat.succ_pos _,by simp⟩
 | n + 1,lo,i + 1,t,h => by
  have h:(intsT (lo + 1) n)[i]? = some t:=by simpa [intsT] using h
  obtain ⟨h1,h2⟩:=intsT_get h
  exact ⟨Nat.succ_lt_succ h1,by rw [h2]; congr 1; omega⟩
theorem intsT_length:∀ (n:Nat) (lo:Int),(intsT lo n).length = n
 | 0,_ => rfl
 | n + 1,lo => by rw [intsT,List.length_cons,intsT_length]
theorem itr_ok {K:PySem.W.Frag} {F:Hp} {α:List Addr} (lo:Int) (n:Nat):ItOk K F α (Itr lo n) ⟨intsT lo n,fun _ => True⟩:=fun F2 α2 μ2 H2 s2 p2 S2 _ => by
 refine ⟨fun i t hi => ?_,?_⟩
 ·obtain ⟨h1,rfl⟩:=intsT_get hi
  exact ⟨h1,fun x H3 hX11_ => by obtain ⟨e1,e2⟩:=hX11_; subst e1; subst e2; exact ⟨F2,Grow.refl,Rep.int' _⟩⟩
 ·show n ≤ (intsT lo n).length
  rw [intsT_length]; exact Nat.le_refl _
theorem asInt_eq {t:T} {i:Int} (h:asInt t = some i):t = .int i:=by
 cases t <;> first | (cases h; rfl) | cases h
theorem ci_range1 {a:Expr} {da:D} {p pos:Pos} (hm:X.mg "range" = none) (h:CE X a da) (hg:Gl X "range":=by rfl) (hs:starEach [a] X.env = [(false,eval a X.env)]:=by rfl):CI X tg (.Call (.Name "range" p) [a] [] pos) (iRange1 da) :=
 PI.imp (pi_range1 hg hm (ca_cons h ca_nil hs) hs) fun σ H R0 hX11_ => by
  obtain ⟨F,α,e,μ,S,h⟩:=hX11_
  refine args1 ⟨F,α,e,μ,S,(R.wp_bind h).mono (fun x μ1 h v H1 F1 α1 x1 S1 o1 => ?_) fun _ _ h => h⟩
  obtain ⟨j,ht,h⟩:=R.wp_lift (R.wp_bind h)
  obtain ⟨t,hr,ht⟩:=Option.bind_eq_some_iff.mp ht
  cases asInt_eq ht
  by_cases hb':rngOk j = true
  ·rw [if_pos hb'] at h
   have hb:=rngOk_iff hb'
   cases (now_of S1.st o1 hr).int
   exact ⟨j,rfl,hb.1,hb.2,h _ H1 F1 α1 x1 S1 (itr_ok 0 j.toNat)⟩
  ·rw [if_neg hb'] at h; exact h.elim
theorem args2 {da db:D} {σ:L2.St} {H:Hp} {Q:List V → Hp → Prop} (h:∃ F α e μ,Sim X.K F α e μ σ H ∧ (da e μ).wp (fun x μ1 => (db e μ1).wp (fun y μ2 => ∀ v u H' F' α',Ex F α H F' α' H' → Sim X.K F' α' e μ2 σ H' → SvOk X.K F' α' v x → SvOk X.K F' α' u y → Q [v,u] H') (XPost X F α H e)) (XPost X F α H e)):tDA X [da,db] σ H Q:=by
 obtain ⟨F,α,e,μ,S,h⟩:=h
 refine ⟨F,α,e,μ,S,?_⟩
 rw [dArgs_cons]
 cases q:da e μ with
 | err c μ1 => rw [q] at h; exact h
 | bad => rw [q] at h; exact h
 | ok x μ1 =>
  rw [q] at h
  rw [R.bind_ok,dArgs_cons]
  have h:(db e μ1).wp _ _:=h
  cases q2:db e μ1 with
  | err c μ2 => rw [q2] at h; exact h
  | bad => rw [q2] at h; exact h
  | ok y μ2 =>
   rw [q2] at h
   intro vs H1 F1 α1 x1 S1 o1
   cases o1 with
   | cons o1 o2 =>
    cases o2 with
    | cons o2 o3 => cases o3; exact h _ _ H1 F1 α1 x1 S1 o1 o2
theorem ci_range2 {a b:Expr} {da db:D} {p pos:Pos} (hm:X.mg "range" = none) (h:CE X a da) (h':CE X b db) (hg:Gl X "range":=by rfl) (hs:starEach [a,b] X.env = [(false,eval a X.env),(false,eval b X.env)]:=by rfl) (hs2:starEach [b] X.env = [(false,eval b X.env)]:=by rfl) :
  CI X tg (.Call (.Name "range" p) [a,b] [] pos) (iRange2 da db) :=
 PI.imp (pi_range2 hg hm (ca_cons h (ca_cons h' ca_nil hs2) (by rw [hs,hs2])) hs hs2) fun σ H R0 hX11_ => by
  obtain ⟨F,α,e,μ,S,h⟩:=hX11_
  refine args2 ⟨F,α,e,μ,S,(R.wp_bind h).mono (fun x μ1 h => (R.wp_bind h).mono (fun y μ2 h v u H1 F1 α1 x1 S1 o1 o2 => ?_) fun _ _ h => h) fun _ _ h => h⟩
  obtain ⟨i,ht,h⟩:=R.wp_lift (R.wp_bind h)
  obtain ⟨t,hr,ht⟩:=Option.bind_eq_some_iff.mp ht
  cases asInt_eq ht
  obtain ⟨j,ht,h⟩:=R.wp_lift (R.wp_bind h)
  obtain ⟨t,hr2,ht⟩:=Option.bind_eq_some_iff.mp ht
  cases asInt_eq ht
  by_cases hb':(rngOk i && rngOk j) = true
  ·rw [if_pos hb'] at h
   rw [Bool.and_eq_true] at hb'
   have hb:-(2 ^ 62) ≤ i ∧ i < 2 ^ 62 ∧ -(2 ^ 62) ≤ j ∧ j < 2 ^ 62:=⟨(rngOk_iff hb'.1).1,(rngOk_iff hb'.1).2,(rngOk_iff hb'.2).1,(rngOk_iff hb'.2).2⟩
   cases (now_of S1.st o1 hr).int
   cases (now_of S1.st o2 hr2).int
   exact ⟨i,j,rfl,hb,h _ H1 F1 α1 x1 S1 (itr_ok i (j - i).toNat)⟩
  ·rw [if_neg hb'] at h; exact h.elim
end
noncomputable def tBd (K:PySem.W.Frag) (b:BD):TG:=fun v σ H Q => ∃ F α e μ t e',Sim K F α e μ σ H ∧ Rep K F t v ∧ b t e = some e' ∧ ∀ σ',Sim K F α e' μ σ' H → Q σ' H
noncomputable def CB (X:Cx) (tg:Expr) (b:BD):Prop:=PG X tg (tBd X.K b)
theorem PG.imp {X:Cx} {tg:Expr} {t t':TG} (h:PG X tg t) (i:∀ v σ H Q,t' v σ H Q → t v σ H Q):PG X tg t':=fun pins s σ H v u Q I r q => h pins s σ H v u Q I r (i v σ H Q q)
section
variable {X:Cx} {pos:Pos}
theorem cb_name (i:Nat) {x:Str} (hN:X.N.Nodup) (hi:X.N[i]? = some x:=by rfl) (hx:Loc X.env.scope x:=by first | exact Or.inl rfl | exact Or.inr rfl) (hf:X.fn x = true ∨ X.env.scope.names.lookup x = some .local:=by first | exact .inl rfl | exact .inr rfl | assumption) :
  CB X (.Name x pos) (bName i):=PG.imp (pg_name hN hi hx hf) fun v σ H Q hX11_ => by
 obtain ⟨F,α,e,μ,t,e',S,r,hb,q⟩:=hX11_
 cases hb
 exact q _ (S.set (x:=.val t) r)
theorem cb_pair (i j:Nat) {x y:Str} {px py:Pos} {k:Nat} (hN:X.N.Nodup) (hc:X.calm = true) (hi:X.N[i]? = some x:=by rfl) (hj:X.N[j]? = some y:=by rfl) (hx:Loc X.env.scope x:=by first | exact Or.inl rfl | exact Or.inr rfl)
  (hy:Loc X.env.scope y:=by first | exact Or.inl rfl | exact Or.inr rfl)
  (hf:X.fn x = true ∨ X.env.scope.names.lookup x = some .local:=by first | exact .inl rfl | exact .inr rfl | assumption) (hf':X.fn y = true ∨ X.env.scope.names.lookup y = some .local:=by first | exact .inl rfl | exact .inr rfl | assumption)
  : CB X (.Tuple [.Name x px,.Name y py] k pos) (bTup [i,j]) :=
 PG.imp (pg_tup hc (pgs_cons (pg_name hN hi hx hf) (pgs_cons (pg_name hN hj hy hf') pgs_nil))) fun v σ H Q hX11_ => by
  obtain ⟨F,α,e,μ,t,e',S,r,hb,q⟩:=hX11_
  cases t with
  | tup ts =>
   unfold bTup at hb
   simp only at hb
   by_cases hl:ts.length = [i,j].length
   ·rw [if_pos hl] at hb
    rw [Rep] at r
    obtain ⟨a,vs,rfl,hq,hr⟩:=r
    match ts,vs,hl,hr with
    | [t1,t2],vs,_,hr =>
     rw [RepL] at hr
     obtain ⟨v1,vs1,rfl,r1,hr⟩:=hr
     rw [RepL] at hr
     obtain ⟨v2,vs2,rfl,r2,hr⟩:=hr
     rw [RepL] at hr
     subst hr
     cases hb
     exact ⟨a,_,rfl,Same.seqT S.st.ext hq,rfl,v1,[v2],rfl,v2,[],rfl,rfl,q _ ((S.set (x:=.val t1) r1).set (x:=.val t2) r2)⟩
   ·rw [if_neg hl] at hb; cases hb
  | _ => cases hb
end
section
variable {X:Cx} {tg iter c:Expr} {body:List Stmt} {di:DI} {b:BD} {d:DS} {dc:D} {pos:Pos}
theorem cs_for (hp:PassesOwn (model X.prog X.w) X.A X.env X.xe) (hc:X.calm = true) (hi:CI X tg iter di) (hg:CB X tg b) (hb:CSs X body d) (hs:∀ x,foldedSetIterable iter X.env x = pure x:=by intro _; rfl) :
  CS X (.For tg iter body [] pos) (sFor di b d):=PS.imp (ps_for hp hc hi hg hb hs) fun D σ H hX11_ => by
 obtain ⟨F,α,e,μ,S,h⟩:=hX11_
 refine ⟨F,α,e,μ,S,(PostS.toS h).mono (fun W μ1 h J H1 F1 α1 x1 S1 ok => ?_) fun _ _ h => h⟩
 refine ⟨fun i m σ H => m = W.items.length - i ∧ i ≤ W.items.length ∧ ∃ F2 α2 e2 μ2,Same F1 F2 ∧ α1 <+: α2 ∧ Sim X.K F2 α2 e2 μ2 σ H ∧ PostS X F2 α2 H D (forL W.same b d (W.items.drop i) e2 μ2),
  ⟨_,rfl,Nat.zero_le _,F1,α1,e,μ1,Same.refl _,List.prefix_refl _,S1,PostS.mono x1 h⟩,?_⟩
 rintro i m σ2 H2 ⟨rfl,hi,F2,α2,e2,μ2,s2,p2,S2,h⟩
 by_cases hlt:i < W.items.length
 ·rw [List.drop_eq_getElem_cons hlt] at h
  unfold forL at h
  by_cases hs:W.same μ2
  ·rw [if_pos hs] at h
   obtain ⟨g1,g2⟩:=ok F2 α2 μ2 H2 s2 p2 S2.st hs
   obtain ⟨go,yl⟩:=g1 i W.items[i] (by simp [hlt])
   cases hb':b W.items[i] e2 with
   | none => simp only [hb'] at h; exact h.elim
   | some e3 =>
    simp only [hb'] at h
    refine .inr ⟨go,fun σ' H' => ∃ F4 α4 e4 μ4,Same F1 F4 ∧ α1 <+: α4 ∧ Sim X.K F4 α4 e4 μ4 σ' H' ∧ PostS X F4 α4 H' D (forL W.same b d (W.items.drop (i + 1)) e4 μ4),
     fun σ' H' q => ⟨W.items.length - (i + 1),by omega,rfl,hlt,q⟩,fun x H3 y => ?_⟩
    obtain ⟨F3,gr,rp⟩:=yl x H3 y
    have x3:Ex F2 α2 H2 F3 α2 H3:=gr.ex S2.st.ext
    refine ⟨F3,α2,e2,μ2,W.items[i],e3,S2.grow gr,rp,hb',fun σ4 S4 => ⟨F3,α2,e3,μ2,S4,?_⟩⟩
    cases q:d e3 μ2 with
    | nx e5 μ5 =>
     simp only [q] at h
     exact fun σ' H' F' α' x S' => ⟨F',α',e5,μ5,s2.trans (x3.same.trans x.same),p2.trans x.pre,S',PostS.mono (x3.trans x) h⟩
    | ct e5 μ5 =>
     simp only [q] at h
     exact fun σ' H' F' α' x S' => ⟨F',α',e5,μ5,s2.trans (x3.same.trans x.same),p2.trans x.pre,S',PostS.mono (x3.trans x) h⟩
    | bk e5 μ5 =>
     simp only [q] at h
     exact fun σ' H' F' α' x S' => h σ' H' F' α' (x3.trans x) S'
    | rt x μ5 =>
     simp only [q] at h
     exact fun v H' F' α' x S' => h v H' F' α' (x3.trans x) S'
    | err c e5 μ5 => simp only [q] at h; exact XPost.mono x3 h
    | bad => simp only [q] at h; exact h
  ·rw [if_neg hs] at h; exact h.elim
 ·have e1:i = W.items.length:=by omega
  subst e1
  rw [List.drop_length] at h
  unfold forL at h
  by_cases hs:W.same μ2
  ·rw [if_pos hs] at h
   obtain ⟨g1,g2⟩:=ok F2 α2 μ2 H2 s2 p2 S2.st hs
   exact .inl ⟨g2,h σ2 H2 F2 α2 Ex.refl S2⟩
  ·rw [if_neg hs] at h; exact h.elim
theorem cs_while (hp:PassesOwn (model X.prog X.w) X.A X.env X.xe) (hc:CT X c dc) (hb:CSs X body d):CS X (.While c body [] pos) (sWhile dc d):=PS.imp (ps_while hp hc hb) fun D σ H hX11_ => by
 obtain ⟨F,α,e,μ,S,h⟩:=hX11_
 unfold sWhile at h
 by_cases hn:∃ n,whileN dc d n e μ ≠ .bad
 ·rw [dif_pos hn] at h
  refine ⟨fun m σ H => ∃ F2 α2 e2 μ2,Sim X.K F2 α2 e2 μ2 σ H ∧ PostS X F2 α2 H D (whileN dc d m e2 μ2),⟨_,F,α,e,μ,S,h⟩,?_⟩
  rintro m σ H ⟨F2,α2,e2,μ2,S2,h⟩
  cases m with
  | zero => exact h.elim
  | succ m =>
   unfold whileN at h
   refine ⟨F2,α2,e2,μ2,S2,(PostS.asB h).mono (fun x μ3 ⟨k,hx,h⟩ => ⟨k,hx,fun H3 F3 α3 x3 S3 => ?_⟩) fun _ _ h => h⟩
   cases k with
   | false =>
    rw [if_neg Bool.false_ne_true] at h ⊢
    exact h σ H3 F3 α3 x3 S3
   | true =>
    rw [if_pos rfl] at h ⊢
    refine ⟨fun σ' H' => ∃ F4 α4 e4 μ4,Sim X.K F4 α4 e4 μ4 σ' H' ∧ PostS X F4 α4 H' D (whileN dc d m e4 μ4),fun σ' H' q => ⟨m,Nat.lt_succ_self m,q⟩,F3,α3,e2,μ3,S3,?_⟩
    cases q:d e2 μ3 with
    | nx e5 μ5 =>
     rw [q] at h
     exact fun σ' H' F' α' x S' => ⟨F',α',e5,μ5,S',PostS.mono (x3.trans x) h⟩
    | ct e5 μ5 =>
     rw [q] at h
     exact fun σ' H' F' α' x S' => ⟨F',α',e5,μ5,S',PostS.mono (x3.trans x) h⟩
    | bk e5 μ5 =>
     rw [q] at h
     exact fun σ' H' F' α' x S' => h σ' H' F' α' (x3.trans x) S'
    | rt x μ5 =>
     rw [q] at h
     exact fun σ' H' F' α' x S' => h σ' H' F' α' (x3.trans x) S'
    | err c e5 μ5 => rw [q] at h; exact XPost.mono x3 h
    | bad => rw [q] at h; exact h
 ·rw [dif_neg hn] at h; exact h.elim
end
end Fw
namespace L2
open PySem PySem.Spec PyProof.Rows
theorem compLoop_gen {prog:Program} {w:World} {A:Around} {R:Result → Shared → Prop} {s:Shared} {elt target iter:Expr} {ifs:List Expr} {scope:Scope} {pos:Pos} {it acc:Value} {env:Env} (I:Nat → Shared → Prop)
  (turn:∀ n s,I n s → wpAny (model prog w) A (pyNext it) (fun r s₁ => match r with
   | none => R (.ok .next) s₁
   | some v => wpAny (model prog w) A (letOwnedTupleGo target it v) (fun _ s₁' => wpAny (model prog w) A (assign target env v) (fun _ s₂ =>
     wpAny (model prog w) A (forIn ifs true fun c r => if r = true then do let ok ← isTrue c env (eval c env); pure (ForInStep.yield ok) else pure (ForInStep.yield r)) (fun ok s₃ =>
      if ok = true then wpAny (model prog w) A (eval elt env) (fun x s₄ =>
       wpAny (model prog w) A (call (.builtin "list.append") [acc,x]) (fun _ s₅ => ∃ m,m < n ∧ I m s₅) (fun _ _ => False) s₄) (fun _ _ => False) s₃
      else ∃ m,m < n ∧ I m s₃) (fun _ _ => False) s₂) (fun _ _ => False) s₁') (fun _ _ => False) s₁) (fun _ _ => False) s)
  (n:Nat) (h:I n s):codeAny (model prog w) A (.compLoop (.ListComp elt [⟨target,iter,ifs,0⟩] scope pos) 0 it acc env) R s:=by
 have no:∀ {α:Type} {t:Sem α} {Q:α → Shared → Prop} {E:Value → Shared → Prop} {s:Shared},wpAny (model prog w) A t Q (fun _ _ => False) s → wpAny (model prog w) A t Q E s:=fun h => wpAny_mono h (fun _ _ x => x) fun _ _ x => x.elim
 refine codeAny_loop rfl I (fun n s hI => ?_) n h
 show wpAny _ A ((compTurn (.ListComp elt [⟨target,iter,ifs,0⟩] scope pos) 0 it acc env).onRaise (fun x => do noteFrame x env; theTreesLotGoes x)) _ _ s
 refine wpAny_noted ?_
 rw [compTurn_list]
 refine wpAny_bind (wpAny_standAt (wpAny_bind (wpAny_mono (no (turn n s hI)) (fun r s₁ h₁ => ?_) fun _ _ h' => h')))
 cases r with
 | none => exact wpAny_pure h₁
 | some v =>
  refine wpAny_bind (wpAny_mono (no h₁) (fun _ s₁' h₁' => ?_) fun _ _ h' => h')
  refine wpAny_bind (wpAny_mono (no h₁') (fun _ s₂ h₂ => wpAny_bind (wpAny_mono (no h₂) (fun ok s₃ h₃ => ?_) fun _ _ h' => h')) fun _ _ h' => h')
  cases ok with
  | false => exact wpAny_pure ⟨rfl,h₃⟩
  | true =>
   exact wpAny_bind (wpAny_bind (wpAny_mono (no h₃) (fun x s₄ h₄ => wpAny_bind (wpAny_mono (no h₄) (fun _ s₅ h₅ => wpAny_pure (wpAny_pure ⟨rfl,h₅⟩)) fun _ _ h' => h')) fun _ _ h' => h'))
noncomputable def compCx (X:Cx) (N':List Str) (scope:Scope) (cl:List (Str × Addr)) (C:Addr) (s₀:Shared) (H₀:Hp) (ex:List Addr):Cx :=
 { X with N:=N',s₀:=s₀,H₀:=H₀,env:=compEnvC scope cl C X.env,outer:=X.stack,stack:=X.stack,ex:=ex,fn:=fun x => (scope.names.lookup x == some NameKind.cell),pn:=[],xe:=fun _ _ => False }
noncomputable def PIfs (X:Cx) (ifs:List Expr) (t:TT):Prop :=
 ∀ (pins:List (Addr × Obj)) (s:Shared) (σ:St) (H:Hp) (Q:Bool → Hp → Prop),Inv X pins σ H s → t σ H Q →
  wpAny (model X.prog X.w) X.A (forIn ifs true fun c r => if r = true then do let ok ← isTrue c X.env (eval c X.env); pure (ForInStep.yield ok) else pure (ForInStep.yield r)) (TP X pins σ Q) X.xe s
theorem pifs_nil {X:Cx}:PIfs X [] (fun _ H Q => Q true H):=fun _ _ _ H _ I h => wpAny_tests_nil ⟨H,I,h⟩
theorem pifs_one {X:Cx} {c:Expr} {t:TT} (h:PT X c t):PIfs X [c] t:=fun pins s σ H Q I q => wpAny_tests_one (h pins s σ H Q I q)
noncomputable def iniV (mp:List (Option Nat)) (σ:St):St:=mp.map fun o => o.bind fun j => (σ[j]?).bind id
structure CompScope (X:Cx) (N':List Str) (scope:Scope) (mp:List (Option Nat)):Prop where
 kind:scope.kind = .function
 cells:(scope.names.filter fun y => y.2 == NameKind.cell).length ≤ 1
 nd:(scope.names.map (·.1)).Nodup
 loc:∀ x ∈ scope.names,x.2 = .local → scope.names.lookup x.1 = some .local
 free:∀ y ∈ scope.names,y.2 = .free → X.env.kindOf y.1 = some .cell ∨ X.env.kindOf y.1 = some .free
 len:mp.length = N'.length
 from_:∀ (i j:Nat),mp[i]? = some (some j) → ∃ x,N'[i]? = some x ∧ X.N[j]? = some x ∧ (x,NameKind.free) ∈ scope.names ∧ (X.env.scope.names.lookup x = some .cell ∨ X.env.scope.names.lookup x = some .free)
 seen:∀ x,(x,NameKind.free) ∈ scope.names → (relabel scope X.env).names.lookup x = some .cell ∨ (relabel scope X.env).names.lookup x = some .free
 back:∀ x,(relabel scope X.env).names.lookup x = some .cell ∨ (relabel scope X.env).names.lookup x = some .free → (x,NameKind.free) ∈ scope.names ∨ scope.names.lookup x = some .cell
inductive OneCell (names:List (Str × NameKind)) (n:Nat) (h:Heap) (acc:List (Str × Addr)):Prop where
 | no (h0:∀ x,names.lookup x ≠ some .cell) (h1:cellsFrom n names acc = acc) (h2:pushCells h names = h)
 | one (y:Str) (h0:∀ x,names.lookup x = some .cell → x = y) (hy:names.lookup y = some .cell) (h1:cellsFrom n names acc = (y,n) :: acc) (h2:pushCells h names = h.push { cls:=.type "cell",data:=.cell none })
theorem no_cells:∀ (names:List (Str × NameKind)) (n:Nat) (h:Heap) (acc:List (Str × Addr)),names.filter (fun y => y.2 == NameKind.cell) = [] → (∀ x,names.lookup x ≠ some .cell) ∧ cellsFrom n names acc = acc ∧ pushCells h names = h
 | [],n,h,acc,_ => ⟨fun x => by simp,rfl,rfl⟩
 | (y,k) :: names,n,h,acc,e => by
  rw [List.filter_cons] at e
  cases hk:(k == NameKind.cell) with
  | true => rw [if_pos (by exact hk)] at e; cases e
  | false =>
   rw [if_neg (by simp [hk])] at e
   obtain ⟨h1,h2,h3⟩:=no_cells names n h acc e
   refine ⟨fun x hx => ?_,?_,?_⟩
   ·rw [List.lookup_cons] at hx
    cases hb:x == y with
    | true => rw [hb] at hx; cases hx; simp at hk
    | false => rw [hb] at hx; exact h1 x hx
   ·unfold cellsFrom; rw [if_neg (by simp [hk])]; exact h2
   ·unfold pushCells; rw [if_neg (by simp [hk])]; exact h3
theorem one_cell:∀ (names:List (Str × NameKind)) (n:Nat) (h:Heap) (acc:List (Str × Addr)),(names.filter fun y => y.2 == NameKind.cell).length ≤ 1 → (names.map (·.1)).Nodup → OneCell names n h acc
 | [],n,h,acc,_,_ => .no (fun x => by simp) rfl rfl
 | (y,k) :: names,n,h,acc,e,nd => by
  rw [List.filter_cons] at e
  have nd':=List.nodup_cons.mp (by simpa using nd:(y :: names.map (·.1)).Nodup)
  cases hk:(k == NameKind.cell) with
  | true =>
   rw [if_pos (by exact hk)] at e
   have e0:names.filter (fun y => y.2 == NameKind.cell) = []:=List.length_eq_zero_iff.mp (by simpa using e)
   obtain ⟨h1,h2,h3⟩:=no_cells names (n + 1) (h.push { cls:=.type "cell",data:=.cell none }) ((y,n) :: acc) e0
   have ek:k = .cell:=by simpa using hk
   subst ek
   refine .one y (fun x hx => ?_) (by simp) ?_ ?_
   ·rw [List.lookup_cons] at hx
    cases hb:x == y with
    | true => exact eq_of_beq hb
    | false => rw [hb] at hx; exact absurd hx (h1 x)
   ·unfold cellsFrom; rw [if_pos (by simp)]; exact h2
   ·unfold pushCells; rw [if_pos (by simp)]; exact h3
  | false =>
   rw [if_neg (by simp [hk])] at e
   have kn:k ≠ .cell:=by simpa using hk
   have lk:∀ x,((y,k) :: names).lookup x = some .cell → names.lookup x = some .cell:=fun x hx => by
    rw [List.lookup_cons] at hx
    cases hb:x == y with
    | true => rw [hb] at hx; cases hx; exact absurd rfl kn
    | false => rw [hb] at hx; exact hx
   cases one_cell names n h acc e nd'.2 with
   | no h0 h1 h2 =>
    refine .no (fun x hx => h0 x (lk x hx)) ?_ ?_
    ·unfold cellsFrom; rw [if_neg (by simp [hk])]; exact h1
    ·unfold pushCells; rw [if_neg (by simp [hk])]; exact h2
   | one z h0 hz h1 h2 =>
    have zne:(z == y) = false:=by
     have:z ≠ y:=fun q => by
      subst q
      exact nd'.1 (List.mem_map.mpr ⟨_,PySem.mem_of_lookup hz,rfl⟩)
     simpa using this
    refine .one z (fun x hx => h0 x (lk x hx)) (by rw [List.lookup_cons,zne]; exact hz) ?_ ?_
    ·unfold cellsFrom; rw [if_neg (by simp [hk])]; exact h1
    ·unfold pushCells; rw [if_neg (by simp [hk])]; exact h2
theorem newEnv_comp {M:Model} {A:Around} {E:Value → Shared → Prop} {s:Shared} {scope:Scope} {globals:Addr} {cl:List (Str × Addr)} {qual:Str} {outer:Env} {Q:Env → Shared → Prop}
  (hQ:Q (newEnv scope s.heap.objs.size globals (cellsFrom (s.heap.objs.size + 1) scope.names cl) qual none .none (some outer) builtinsNs) { s with heap:=pushCells (s.heap.push { cls:=.type "dict",data:=.dict #[] }) scope.names }) :
  wpAny M A (newFunctionEnv scope globals cl [] qual none .none (some outer)) Q E s:=by
 simp only [newFunctionEnv,Option.isSome_some,if_true]
 refine wpAny_bind (wpAny_alloc ?_)
 refine wpAny_bind (wpAny_layCells _ (fun name kind cells => by cases hkc:kind == NameKind.cell <;> simp [hkc]) _ _ _ _ ?_)
 rw [show ({ s with heap:=s.heap.push { cls:=.type "dict",data:=.dict #[] } }:Shared).heap.objs.size = s.heap.objs.size + 1 from Heap.size_push ..]
 simp only [List.forIn_nil]
 exact wpAny_bind (wpAny_pure (wpAny_pure hQ))
theorem closure_list {env:Env}:∀ (names:List (Str × NameKind)) (acc:List (Str × Addr)),(∀ y ∈ names,y.2 = .free → ∃ c,env.cells.lookup y.1 = some c) →
  ∃ cl:List (Str × Addr),(forIn names acc fun x r => (if (x.2 == NameKind.free) = true then do let c ← cellOf env x.1; pure (ForInStep.yield ((x.1,c) :: r)) else pure (ForInStep.yield r):Sem (ForInStep (List (Str × Addr))))) = pure cl ∧
   (∀ x c,cl.lookup x = some c → acc.lookup x = some c ∨ env.cells.lookup x = some c) ∧ (∀ x,(x,NameKind.free) ∈ names ∨ (acc.lookup x).isSome = true → (cl.lookup x).isSome = true)
 | [],acc,_ => ⟨acc,rfl,fun x c h => .inl h,fun x h => by
   rcases h with h | h
   ·simp at h
   ·exact h⟩
 | (n,k) :: r,acc,h => by
  by_cases hk:k = .free
  ·subst hk
   obtain ⟨c,hc⟩:=h (n,.free) List.mem_cons_self rfl
   obtain ⟨cl,e,h1,h2⟩:=closure_list r ((n,c) :: acc) fun y hy => h y (List.mem_cons_of_mem _ hy)
   refine ⟨cl,?_,fun x d hx => ?_,fun x hx => h2 x ?_⟩
   ·rw [List.forIn_cons]
    have e1:(NameKind.free == NameKind.free) = true:=by decide
    simp only [e1,if_true]
    have e2:cellOf env n = pure c:=by simp only [cellOf,hc]
    rw [e2]
    exact e
   ·rcases h1 x d hx with g | g
    ·rw [List.lookup_cons] at g
     cases q:x == n with
     | true =>
      rw [q] at g
      cases g
      have:x = n:=by simpa using q
      subst this
      exact .inr hc
     | false => rw [q] at g; exact .inl g
    ·exact .inr g
   ·rcases hx with hx | hx
    ·rcases List.mem_cons.mp hx with g | g
     ·cases g
      right
      simp [List.lookup_cons]
     ·exact .inl g
    ·right
     rw [List.lookup_cons]
     cases q:x == n with
     | true => rfl
     | false => exact hx
  ·obtain ⟨cl,e,h1,h2⟩:=closure_list r acc fun y hy => h y (List.mem_cons_of_mem _ hy)
   refine ⟨cl,?_,h1,fun x hx => h2 x ?_⟩
   ·rw [List.forIn_cons]
    have e1:(k == NameKind.free) = false:=by simpa using hk
    simp only [e1,Bool.false_eq_true,if_false]
    exact e
   ·rcases hx with hx | hx
    ·rcases List.mem_cons.mp hx with g | g
     ·cases g
      exact absurd rfl hk
     ·exact .inl g
    ·exact .inr hx
theorem closure_ok {scope:Scope} {env:Env} (h:∀ y ∈ scope.names,y.2 = .free → ∃ c,env.cells.lookup y.1 = some c) :
  ∃ cl,closureFor scope env = pure cl ∧ (∀ x c,cl.lookup x = some c → env.cells.lookup x = some c) ∧ (∀ x,(x,NameKind.free) ∈ scope.names → (cl.lookup x).isSome = true):=by
 obtain ⟨cl,e,h1,h2⟩:=closure_list (env:=env) scope.names [] h
 refine ⟨cl,?_,fun x c hx => (h1 x c hx).elim (fun g => by simp at g) id,fun x hx => h2 x (.inl hx)⟩
 simp only [closureFor]
 rw [e]
 rfl
section
variable {X:Cx} {elt iter tg:Expr} {ifs:List Expr} {scope:Scope} {pos:Pos} {N':List Str} {g:TG} {tc:TT} {te:TE} {mp:List (Option Nat)}
noncomputable def tLoop (J:It) (mp:List (Option Nat)) (g:TG) (tc:TT) (te:TE) (σ:St) (H:Hp) (Q:VK):Prop:=∀ p,H p = none → ∃ W:Nat → Nat → St → Hp → Prop,(∃ m,W 0 m (iniV mp σ) (upd H p (.lst []))) ∧ ∀ i m σ H,W i m σ H →
 (J.stop i H ∧ Q (.ref p) H) ∨ (J.go i H ∧ ∃ N:St → Hp → Prop,(∀ σ' H',N σ' H' → ∃ m',m' < m ∧ W (i + 1) m' σ' H') ∧ ∀ x H',J.yld i H x H' → g x σ H' fun σ2 H2 => tc σ2 H2 fun b H3 =>
  if b = true then te σ2 H3 fun y H4 => rAppend (.ref p) [y] H4 fun _ H5 => N σ2 H5 else N σ2 H3)
theorem iniV_get {mp:List (Option Nat)} {σ:St} {i:Nat} {v:V} (h:(iniV mp σ)[i]? = some (some v)):∃ j,mp[i]? = some (some j) ∧ σ[j]? = some (some v):=by
 unfold iniV at h
 rw [List.getElem?_map] at h
 cases q:mp[i]? with
 | none => rw [q] at h; cases h
 | some o =>
  cases o with
  | none => rw [q] at h; cases h
  | some j =>
   rw [q] at h
   refine ⟨j,rfl,?_⟩
   have h:(σ[j]?).bind id = some v:=by simpa using h
   cases z:σ[j]? with
   | none => rw [z] at h; cases h
   | some y => rw [z] at h; have h:y = some v:=h; rw [h]
theorem inv_comp {pins:List (Addr × Obj)} {σ:St} {H:Hp} {s₀:Shared} {C:Addr} {h₁:Heap} {t':Nat} {cl:List (Str × Addr)} {fp:List Addr} (hS:CompScope X N' scope mp) (I:Inv X pins σ H s₀)
  (hcl:∀ x c,cl.lookup x = some c → X.env.cells.lookup x = some c ∨ (scope.names.lookup x = some .cell ∧ c = C + 1 ∧ h₁.IsCell c none ∧ ∀ z,scope.names.lookup z = some .cell → z = x)) (hcs:∀ x,(x,NameKind.free) ∈ scope.names → (cl.lookup x).isSome = true ∧ ∀ c,cl.lookup x = some c → X.env.cells.lookup x = some c)
  (hcn:∀ x,scope.names.lookup x = some .cell → cl.lookup x = some (C + 1))
  (hC:C = s₀.heap.objs.size) (keep:∀ b o,s₀.heap.get? b = some o → h₁.get? b = some o) (ns:∃ m,h₁.Ns C m) (hf:∀ b ∈ fp,FpOk X pins H b) (hfp:∀ b ∈ fp,b < s₀.heap.objs.size) :
  Inv (compCx X N' scope cl C s₀ H fp) [] (iniV mp σ) H { s₀ with heap:=h₁,toks:=t' }:=by
 obtain ⟨m0,ns⟩:=ns
 have cellK:∀ c v,s₀.heap.IsCell c v → h₁.IsCell c v:=fun c v ⟨o,ho,hd⟩ => ⟨o,keep c o ho,hd⟩
 refine ⟨⟨I.ok.mod,hS.kind,I.ok.glob,I.ok.blt,Nat.le_of_eq hC.symm,fun x y c h1 h2 => ?_,fun x hx => ?_,fun x c h hx => ?_,I.ok.hd,I.ok.frames,.inl rfl,fun b hb => ⟨?_,fun x c h => ?_⟩,I.bs,Nat.le_trans I.ok.bsz I.sz,
   fun b o e hb => ?_,fun b hb hs => ?_,I.stack,I.stkFree⟩,rfl,I.bare,Un.kept keep,⟨m0,ns,fun i x v e1 e2 e3 => ?_⟩,fun x c h => ?_,?_,fun x c h => ?_,fun p hp => absurd hp (by intro z; cases z),I.hok.kept keep,?_⟩
 ·have old:∀ z,X.env.cells.lookup z = some c → c < s₀.heap.objs.size:=fun z hz => by
   obtain ⟨v,q⟩:=I.cell z c hz
   exact q.lt
  rcases hcl x c h1 with a | ⟨a,ca,_,ua⟩
  ·rcases hcl y c h2 with b | ⟨b,cb,_⟩
   ·exact I.ok.inj x y c a b
   ·have:=old x a
    rw [cb,hC] at this
    exact absurd this (Nat.not_lt.mpr (Nat.le_succ _))
  ·rcases hcl y c h2 with b | ⟨b,cb,_⟩
   ·have:=old y b
    rw [ca,hC] at this
    exact absurd this (Nat.not_lt.mpr (Nat.le_succ _))
   ·exact (ua y b).symm
 ·rcases hS.back x hx with q | q
  ·exact Option.isSome_iff_exists.mp (hcs x q).1
  ·exact ⟨_,hcn x q⟩
 ·have q:scope.names.lookup x = some .cell:=by
   have h:(scope.names.lookup x == some NameKind.cell) = true:=h
   simpa using h
  have hx:cl.lookup x = some c:=hx
  rw [hcn x q] at hx
  cases hx
  rw [hC]
  exact Nat.le_succ _
 ·intro z
  have:=hfp b hb
  rw [z] at this
  have h2:C < s₀.heap.objs.size:=this
  rw [hC] at h2
  exact Nat.lt_irrefl _ h2
 ·rcases hcl x c h with a | ⟨a,ca,_⟩
  ·exact (hf b hb).2.2.2.2.1 x c a
  ·have:=hfp b hb
   rw [ca,hC]
   exact fun q => absurd (q ▸ this) (Nat.not_lt.mpr (Nat.le_succ _))
 ·rcases (hf b hb).2.2.2.1 with z | z
  ·exact I.ok.noex b o e z
  ·exact absurd (Nat.lt_of_lt_of_le (Heap.lt_size e) (Nat.le_trans I.ok.bsz z)) (Nat.lt_irrefl _)
 ·rcases List.mem_cons.mp (I.stkSub b hs) with z | z
  ·exact (hf b hb).2.1 z
  ·exact (hf b hb).2.2.1 z
 ·obtain ⟨j,hj,hv⟩:=iniV_get e2
  obtain ⟨y,y1,y2,y3,y4⟩:=hS.from_ i j hj
  have hy:y = x:=by
   have:(compCx X N' scope cl C s₀ H fp).N[i]? = some y:=y1
   rw [e1] at this
   exact (Option.some.inj this).symm
  subst hy
  obtain ⟨m,hn,hl⟩:=I.loc
  obtain ⟨u,ru,lk⟩:=hl j y v y2 hv (y4.elim (fun z => .inr (.inl z)) fun z => .inr (.inr z))
  refine ⟨u,ru,?_⟩
  rcases lk with ⟨hk,_⟩ | ⟨hk,c,hc,hcell⟩
  ·exfalso
   have hk:X.env.scope.names.lookup y = some .local:=hk
   rcases y4 with z | z
   ·rw [hk] at z; cases z
   ·rw [hk] at z; cases z
  ·obtain ⟨c',hc'⟩:=Option.isSome_iff_exists.mp (hcs y y3).1
   have:c' = c:=by
    have q:=(hcs y y3).2 c' hc'
    rw [hc] at q
    exact (Option.some.inj q).symm
   subst this
   exact .inr ⟨hS.seen y y3,c',hc',cellK _ _ hcell⟩
 ·rcases hcl x c h with a | ⟨_,_,a,_⟩
  ·obtain ⟨v,hv⟩:=I.cell x c a
   exact ⟨v,cellK _ _ hv⟩
  ·exact ⟨none,a⟩
 ·show H C = none
  rw [hC]
  exact I.hok.fresh (Nat.le_refl _)
 ·rcases hcl x c h with a | ⟨_,a,_⟩
  ·exact I.freeC x c a
  ·rw [a,hC]; exact I.hok.fresh (Nat.le_succ _)
 ·show (iniV mp σ).length = N'.length
  unfold iniV
  rw [List.length_map,hS.len]
theorem comp_core {pins:List (Addr × Obj)} {s₂:Shared} {σ:St} {H₂:Hp} {it:Addr} {fp:List Addr} {tn:Nat → Heap → Prop} {J:It} {cl:List (Str × Addr)} {Q:VK} {RR:Value → Addr → Result → Shared → Prop} {E:Value → Shared → Prop}
  (hS:CompScope X N' scope mp) (hcalm:X.calm = true) (hg:∀ cl C s₀ H₀ ex,PG (compCx X N' scope cl C s₀ H₀ ex) tg g) (hc:∀ cl C s₀ H₀ ex,PIfs (compCx X N' scope cl C s₀ H₀ ex) ifs tc) (he:∀ cl C s₀ H₀ ex,PE (compCx X N' scope cl C s₀ H₀ ex) elt te)
  (hcl:∀ x c,cl.lookup x = some c → X.env.cells.lookup x = some c) (hcs:∀ x,(x,NameKind.free) ∈ scope.names → (cl.lookup x).isSome = true)
  (I:Inv X pins σ H₂ s₂) (T:Turn X.prog X.w X.K tg J fp it tn) (st:tn 0 s₂.heap) (hf:∀ b ∈ fp,FpOk X pins H₂ b) (hq:tLoop J mp g tc te σ H₂ Q)
  (fin:∀ p C s' H',Inv X pins σ H' s' → FpOk X pins H' C → (∃ m,s'.heap.Ns C m) → Q (.ref p) H' → RR (.ref p) C (.ok .next) s') :
  wpAny (model X.prog X.w) X.A (newList []) (fun acc s₃ => wpAny (model X.prog X.w) X.A (newFunctionEnv scope X.env.globals cl [] X.env.qual none .none (some X.env)) (fun cenv s₄ =>
   codeAny (model X.prog X.w) X.A (.compStart (.ListComp elt [⟨tg,iter,ifs,0⟩] scope pos) 0 (.ref it) acc { cenv with scope:=relabel scope X.env }) (RR acc cenv.locals) s₄) E s₃) E s₂:=by
 refine wpAny_newObj_type (newEnv_comp ?_)
 dsimp only
 have I₃:Inv X pins σ (upd H₂ s₂.heap.objs.size (.lst [])) { s₂ with heap:=s₂.heap.push { cls:=.type "list",dict:=none,data:=.seq ([]:List Value).toArray } } :=
  I.lnew (t':=s₂.toks) (ys:=[]) .nil (Nat.zero_le _)
 generalize hH2:s₂.heap.push { cls:=.type "list",dict:=none,data:=.seq ([]:List Value).toArray } = H2 at I₃ ⊢
 obtain ⟨h₁,hh1⟩:∃ h₁,h₁ = pushCells (H2.push { cls:=.type "dict",data:=.dict #[] }) scope.names:=⟨_,rfl⟩
 rw [← hh1]
 have hns₁:h₁.Ns H2.objs.size (fun _ => none):=by rw [hh1]; exact (Heap.Ns.new H2 (.type "dict")).keeps (pushCells_keeps _ _)
 obtain ⟨cl',hcl'⟩:∃ cl',cl' = cellsFrom (H2.objs.size + 1) scope.names cl:=⟨_,rfl⟩
 rw [← hcl']
 have oneC:=one_cell scope.names (H2.objs.size + 1) (H2.push { cls:=.type "dict",data:=.dict #[] }) cl hS.cells hS.nd
 have fc:∀ x,(x,NameKind.free) ∈ scope.names → scope.names.lookup x ≠ some .cell:=fun x hx q => by
  have nd:=hS.nd
  have m2:=PySem.mem_of_lookup q
  have key:∀ l:List (Str × NameKind),(l.map (·.1)).Nodup → (x,NameKind.free) ∈ l → (x,NameKind.cell) ∈ l → False:=by
   intro l
   induction l with
   | nil => intro _ h; cases h
   | cons a l ih =>
    intro nd h1 h2
    have nd':=List.nodup_cons.mp (by simpa using nd:(a.1 :: l.map (·.1)).Nodup)
    rcases List.mem_cons.mp h1 with e1 | h1
    ·rcases List.mem_cons.mp h2 with e2 | h2
     ·rw [← e1] at e2; cases e2
     ·exact nd'.1 (List.mem_map.mpr ⟨_,h2,by rw [← e1]⟩)
    ·rcases List.mem_cons.mp h2 with e2 | h2
     ·exact nd'.1 (List.mem_map.mpr ⟨_,h1,by rw [← e2]⟩)
     ·exact ih nd'.2 h1 h2
  exact key _ nd hx m2
 have hcl0:∀ x c,cl'.lookup x = some c → X.env.cells.lookup x = some c ∨ (scope.names.lookup x = some .cell ∧ c = H2.objs.size + 1 ∧ h₁.IsCell c none ∧ ∀ z,scope.names.lookup z = some .cell → z = x):=fun x c h => by
  cases oneC with
  | no _ e1 _ => rw [hcl'.trans e1] at h; exact .inl (hcl x c h)
  | one y h0 hy e1 e2 =>
   rw [hcl'.trans e1,List.lookup_cons] at h
   cases hb:x == y with
   | true =>
    rw [hb] at h
    have hxy:x = y:=eq_of_beq hb
    have h:some (H2.objs.size + 1) = some c:=h
    cases h
    subst hxy
    refine .inr ⟨hy,rfl,?_,fun z hz => h0 z hz⟩
    rw [hh1.trans e2,← Heap.size_push H2 { cls:=.type "dict",data:=.dict #[] }]
    exact ⟨_,Heap.get?_push_size _ rfl,rfl⟩
   | false => rw [hb] at h; exact .inl (hcl x c h)
 have hcs0:∀ x,(x,NameKind.free) ∈ scope.names → (cl'.lookup x).isSome = true ∧ ∀ c,cl'.lookup x = some c → X.env.cells.lookup x = some c:=fun x hx => by
  have el:cl'.lookup x = cl.lookup x:=by
   cases oneC with
   | no _ e1 _ => rw [hcl'.trans e1]
   | one y h0 hy e1 e2 =>
    rw [hcl'.trans e1,List.lookup_cons]
    cases hb:x == y with
    | true => exact absurd ((eq_of_beq hb) ▸ hy) (fc x hx)
    | false => rfl
  rw [el]
  exact ⟨hcs x hx,fun c hc => hcl x c hc⟩
 have hcn0:∀ x,scope.names.lookup x = some .cell → cl'.lookup x = some (H2.objs.size + 1):=fun x hx => by
  cases oneC with
  | no h0 _ _ => exact absurd hx (h0 x)
  | one y h0 hy e1 e2 =>
   rw [hcl'.trans e1,h0 x hx,List.lookup_cons]
   simp
 have fresh:H₂ s₂.heap.objs.size = none:=I.hok.fresh (Nat.le_refl _)
 have fpl:∀ b ∈ fp,b < s₂.heap.objs.size:=fun b hb => by
  obtain ⟨o,ho,_⟩:=T.obj _ _ st b hb
  exact Heap.lt_size ho
 have hszl:s₂.heap.objs.size ≤ H2.objs.size:=by rw [← hH2,Heap.size_push]; exact Nat.le_succ _
 have old2:∀ b o,s₂.heap.get? b = some o → H2.get? b = some o:=fun b o e => by rw [← hH2]; exact Heap.get?_push_of_some _ e
 have old:∀ b o,H2.get? b = some o → h₁.get? b = some o:=fun b o e => by rw [hh1]; exact pushCells_keeps _ _ _ _ (Heap.get?_push_of_some _ e)
 have hf3:∀ b ∈ fp,FpOk X pins (upd H₂ s₂.heap.objs.size (.lst [])) b:=fun b hb => ⟨by rw [upd_ne (Nat.ne_of_lt (fpl b hb))]; exact (hf b hb).1,(hf b hb).2⟩
 have I₄:=inv_comp (t':=s₂.toks) (N':=N') (C:=H2.objs.size) (h₁:=h₁) hS I₃ hcl0 hcs0 hcn0 rfl old ⟨_,hns₁⟩ hf3 fun b hb => Nat.lt_of_lt_of_le (fpl b hb) hszl
 have st4:tn 0 h₁:=T.keep _ _ _ st fun b hb o e => old b o (old2 b o e)
 obtain ⟨W,⟨m0,w0⟩,turn⟩:=hq s₂.heap.objs.size fresh
 generalize hX':compCx X N' scope cl' H2.objs.size { s₂ with heap:=H2 } (upd H₂ s₂.heap.objs.size (.lst [])) fp = X' at I₄
 have hg':PG X' tg g:=hX' ▸ hg _ _ _ _ _
 have hc':PIfs X' ifs tc:=hX' ▸ hc _ _ _ _ _
 have he':PE X' elt te:=hX' ▸ he _ _ _ _ _
 have e1:X'.prog = X.prog:=by rw [← hX']; rfl
 have e2:X'.w = X.w:=by rw [← hX']; rfl
 have e3:X'.K = X.K:=by rw [← hX']; rfl
 have e4:X'.calm = true:=by rw [← hX']; exact hcalm
 have e5:X'.A = X.A:=by rw [← hX']; rfl
 have e6:X'.env = compEnvC scope cl' H2.objs.size X.env:=by rw [← hX']; rfl
 have e7:X'.xe = fun _ _ => False:=by rw [← hX']; rfl
 have stat:∀ {H':Hp},(∀ b ∈ fp,H' b = none) → ∀ b ∈ fp,FpOk X' [] H' b:=fun {H'} hn b hb => by
  refine ⟨hn b hb,?_,?_,?_,fun x c h => ?_,fun p hp => ?_⟩
  ·rw [e6]; exact Nat.ne_of_lt (Nat.lt_of_lt_of_le (fpl b hb) hszl)
  ·rw [← hX']
   intro hs
   rcases List.mem_cons.mp (I.stkSub b hs) with z | z
   ·exact (hf b hb).2.1 z
   ·exact (hf b hb).2.2.1 z
  ·rw [← hX']; exact .inl hb
  ·rw [e6] at h
   rcases hcl0 x c h with a | ⟨_,a,_⟩
   ·exact (hf b hb).2.2.2.2.1 x c a
   ·rw [a]
    have q1:=Nat.lt_of_lt_of_le (fpl b hb) hszl
    exact fun q => absurd (q ▸ q1) (Nat.not_lt.mpr (Nat.le_succ _))
  ·rw [← hX'] at hp; cases hp
 have loop:∀ s₃:Shared,Inv X' [] (iniV mp σ) (upd H₂ s₂.heap.objs.size (.lst [])) s₃ → tn 0 s₃.heap →
   codeAny (model X.prog X.w) X.A (.compLoop (.ListComp elt [⟨tg,iter,ifs,0⟩] scope pos) 0 (.ref it) (.ref s₂.heap.objs.size) (compEnvC scope cl' H2.objs.size X.env)) (RR (.ref s₂.heap.objs.size) H2.objs.size) s₃:=by
  intro s₃ I₃' st3
  refine compLoop_gen (fun n s' => ∃ i σ' H',Inv X' [] σ' H' s' ∧ tn i s'.heap ∧ (∀ b ∈ fp,H' b = none) ∧ W i n σ' H') ?_ m0 ⟨0,_,_,I₃',st3,fun b hb => (hf3 b hb).1,w0⟩
  rintro n s4 ⟨i,σ4,H4,I4,st4,fr4,w4⟩
  rcases turn i n σ4 H4 w4 with ⟨stop,qn⟩ | ⟨go,N,hN,step⟩
  ·have q:=T.done X' e1 e2 e3 e4 i [] s4 σ4 H4 (fun _ _ => False) I4 (stat fr4) st4 stop
   rw [e5] at q
   refine thn q fun r s5 hX11_ => ?_
   obtain ⟨hr,I5⟩:=hX11_
   subst hr
   have I6:Inv X pins σ H4 s5:=by
    subst hX'
    exact I₃.call' (ch:=fp) I5.os I5.base I5.hok I5.bare fun b hb => ⟨(hf3 b hb).2.2.2.1,(hf3 b hb).2.1,(hf3 b hb).2.2.2.2.1,(hf3 b hb).2.2.2.2.2⟩
   have hC:H4 H2.objs.size = none:=by
    have:=I5.free
    rw [e6] at this
    exact this
   have hns:∃ m,s5.heap.Ns H2.objs.size m:=by
    obtain ⟨m,hm,_⟩:=I5.loc
    rw [e6] at hm
    exact ⟨m,hm⟩
   exact fin _ _ s5 H4 I6 (I₃.fpOk (Nat.le_refl _) hC) hns qn
  ·have q:=T.item X' e1 e2 e3 e4 i [] s4 σ4 H4 (fun _ _ => False) I4 (stat fr4) st4 go
   rw [e5] at q
   refine thn q fun r s5 hX21_ => ?_
   obtain ⟨u,hr,h5⟩:=hX21_
   subst hr
   refine thn h5 fun _ s6 hX31_ => ?_
   obtain ⟨x,H6,I6,r6,y6,st6,fr6⟩:=hX31_
   have I6':=I6.pinned (stat fr6) (T.obj _ _ st6)
   have g6:=hg' _ s6 σ4 H6 x u _ I6' r6 (step x H6 y6)
   rw [e1,e2,e5,e6,e7] at g6
   refine thn g6 fun _ s7 hX41_ => ?_
   obtain ⟨σ7,H7,I7,q7⟩:=hX41_
   have c7:=hc' _ s7 σ7 H7 _ I7 q7
   rw [e1,e2,e5,e6,e7] at c7
   refine thn c7 fun ok s8 hX51_ => ?_
   obtain ⟨H8,I8,q8⟩:=hX51_
   have again:∀ {s9:Shared} {σ9:St} {H9:Hp},Inv X' ([] ++ pinsAt fp s6.heap) σ9 H9 s9 → N σ9 H9 → ∃ m,m < n ∧ ∃ i σ' H',Inv X' [] σ' H' s9 ∧ tn i s9.heap ∧ (∀ b ∈ fp,H' b = none) ∧ W i m σ' H':=fun {s9 σ9 H9} I9 n9 => by
    obtain ⟨m',hm,w9⟩:=hN σ9 H9 n9
    refine ⟨m',hm,i + 1,σ9,H9,I9.unpinned,T.keep _ _ _ st6 fun b hb o e => (I9.pin (b,o) (List.mem_append_right _ (List.mem_append_right _ (mem_pinsAt hb e)))).1,fun b hb => ?_,w9⟩
    obtain ⟨o,e,d⟩:=T.obj _ _ st6 b hb
    exact (I9.pin (b,o) (List.mem_append_right _ (List.mem_append_right _ (mem_pinsAt hb e)))).2.1
   cases ok with
   | false =>
    rw [if_neg Bool.false_ne_true] at q8 ⊢
    exact again I8 q8
   | true =>
    rw [if_pos rfl] at q8 ⊢
    have l8:=he' _ s8 σ7 H8 _ I8 q8
    rw [e1,e2,e5,e6,e7] at l8
    refine thn l8 fun y s9 hX61_ => ?_
    obtain ⟨z,H9,I9,r9,q9⟩:=hX61_
    have a9:=(mt_append (X:=X')) _ s9 σ7 H9 (.ref s₂.heap.objs.size) [z] (.ref s₂.heap.objs.size) [y] _ I9 rfl (.cons r9 .nil) q9
    rw [e1,e2,e5,e7] at a9
    refine thn a9 fun _ s10 ⟨_,H10,I10,_,q10⟩ => again I10 q10
 refine codeAny_compStart_list (loop _ I₄ st4) ?_
 exact T.self X.A 0 _ _ _ st4 (loop _ I₄ st4)
theorem pe_comp {wi:TI} (hx:X.xe = fun _ _ => False) (hS:CompScope X N' scope mp) (hcalm:X.calm = true) (hi:PI X tg iter wi) (hg:∀ cl C s₀ H₀ ex,PG (compCx X N' scope cl C s₀ H₀ ex) tg g) (hc:∀ cl C s₀ H₀ ex,PIfs (compCx X N' scope cl C s₀ H₀ ex) ifs tc)
  (he:∀ cl C s₀ H₀ ex,PE (compCx X N' scope cl C s₀ H₀ ex) elt te) (hs:∀ x,foldedSetIterable iter X.env x = pure x:=by intro _; rfl) :
  PE X (.ListComp elt [⟨tg,iter,ifs,0⟩] scope pos) (fun σ H Q => wi σ H fun J H1 => tLoop J mp g tc te σ H1 Q):=by
 intro pins s σ H Q I h
 have hfr:∀ y ∈ scope.names,y.2 = .free → ∃ c,X.env.cells.lookup y.1 = some c:=fun y hy hk => I.ok.has y.1 (hS.free y hy hk)
 obtain ⟨cl,hcl,h1,h2⟩:=closure_ok hfr
 rw [eval_ListComp]
 refine wpAny_comprehension_free (use:=none) rfl hs hcl hS.kind hS.loc (thn (hi pins s σ H _ I h) fun v s1 q1 => thn q1 fun itv s2 hX11_ => ?_)
 obtain ⟨it,fp,tn,J,H2,e,I2,T,st2,f2,q2⟩:=hX11_
 subst e
 refine comp_core (RR:=fun acc C => compPost (model X.prog X.w) X.A X.xe none (EP X pins σ Q) acc C) hS hcalm hg hc he h1 h2 I2 T st2 f2 q2 fun p C s' H' I' fp' ns q' => ?_
 obtain ⟨m,hm⟩:=ns
 refine ⟨m,hm,fun h' sb => ⟨.ref p,H',?_,rfl,q'⟩⟩
 exact I'.turned (t':=s'.toks) (fun b o hb e => (sb.2 b hb).trans e) fp'.1 fp'.2.1 fp'.2.2.2.1 fp'.2.2.2.2.1 fp'.2.2.2.2.2
theorem ps_set_comp {wi:TI} {i:Nat} {y:Str} {py spos:Pos} (hx:X.xe = fun _ _ => False) (hS:CompScope X N' scope mp) (hcalm:X.calm = true) (hi:PI X tg iter wi) (hg:∀ cl C s₀ H₀ ex,PG (compCx X N' scope cl C s₀ H₀ ex) tg g)
  (hc:∀ cl C s₀ H₀ ex,PIfs (compCx X N' scope cl C s₀ H₀ ex) ifs tc) (he:∀ cl C s₀ H₀ ex,PE (compCx X N' scope cl C s₀ H₀ ex) elt te) (hN:X.N.Nodup) (hiN:X.N[i]? = some y) (hl:Loc X.env.scope y)
  (hsw:swapsWith (.ListComp elt [⟨tg,iter,ifs,0⟩] scope pos) (some (.Name y py)) spos.line X.env = pure true) (hs:∀ x,foldedSetIterable iter X.env x = pure x:=by intro _; rfl)
  (hf:X.fn y = true ∨ X.env.scope.names.lookup y = some .local:=by first | exact .inl rfl | exact .inr rfl | assumption) :
  PS X (.Assign [.Name y py] (.ListComp elt [⟨tg,iter,ifs,0⟩] scope pos) spos) (tAsg (fun σ H Q => wi σ H fun J H1 => tLoop J mp g tc te σ H1 Q) (gName i)):=by
 intro pins s σ H D I h
 have hfr:∀ y ∈ scope.names,y.2 = .free → ∃ c,X.env.cells.lookup y.1 = some c:=fun y hy hk => I.ok.has y.1 (hS.free y hy hk)
 obtain ⟨cl,hcl,h1,h2⟩:=closure_ok hfr
 rw [exec_Assign_Name_used _ _ _ _ hsw]
 refine wpAny_bind (wpAny_standAt (wpAny_bind ?_))
 show wpAny _ X.A (do let _ ← comprehension (.ListComp elt [⟨tg,iter,ifs,0⟩] scope pos) scope X.env _ (newList []) false (eval iter X.env) (some (assign (.Name y py) X.env))) _ _ s
 refine wpAny_bind (wpAny_mono (wpAny_comprehension_free (use:=some (assign (.Name y py) X.env)) (Q:=fun _ s' => SP X pins D .next s') rfl hs hcl hS.kind hS.loc
  (thn (hi pins s σ H _ I h) fun v s1 q1 => thn q1 fun itv s2 ⟨it,fp,tn,J,H2,e,I2,T,st2,f2,q2⟩ => ?_)) (fun _ s' hq => wpAny_pure (wpAny_pure hq)) fun _ _ e => e)
 subst e
 refine comp_core (RR:=fun acc C => compPost (model X.prog X.w) X.A X.xe (some (assign (.Name y py) X.env)) (fun _ s' => SP X pins D .next s') acc C) hS hcalm hg hc he h1 h2 I2 T st2 f2 q2 fun p C s' H' I' fp' ns q' => ?_
 obtain ⟨m,hm⟩:=ns
 obtain ⟨oC,es,ep,hoC,rC⟩:=id hm
 show wpAny _ X.A (assign (.Name y py) X.env (.ref p)) _ _ _
 refine wpAny_assign_Name (store_ok2 I' hN hiN hl (v:=.ref p) rfl (fun s'' I'' sb => ?_) hf)
 obtain ⟨a,sb,ha⟩:=sb
 have hCa:C ≠ a:=by
  rcases ha with rfl | ha
  ·exact fp'.2.1
  ·exact fun z => fp'.2.2.2.2.1 y a ha z.symm
 refine ⟨m,⟨oC,es,ep,(sb.2 C hCa).trans hoC,rC⟩,fun h3 sb3 => ⟨_,H',?_,q'⟩⟩
 exact I''.turned (t':=s''.toks) (fun b o hb e => (sb3.2 b hb).trans e) fp'.1 fp'.2.1 fp'.2.2.2.1 fp'.2.2.2.2.1 fp'.2.2.2.2.2
end
end L2
namespace Fw
open PySem PySem.Spec PyProof.Rows L2
section
variable {K:PySem.W.Frag} {F F' F1 F2 H H' H1 H2:Hp} {α α' α1 α2:List Addr} {μ μ':Store} {e:Slots} {σ:L2.St}
theorem slot_ini {mp:List (Option Nat)} {i:Nat} {x:SV} (h:slot (ini mp e) i = some x):∃ j,mp[i]? = some (some j) ∧ slot e j = some x:=by
 unfold slot ini at h
 rw [List.getElem?_map] at h
 cases q:mp[i]? with
 | none => rw [q] at h; cases h
 | some o =>
  cases o with
  | none => rw [q] at h; cases h
  | some j =>
   rw [q] at h
   refine ⟨j,rfl,?_⟩
   simp only [Option.map_some,Option.bind_some] at h
   cases z:slot e j with
   | none => rw [z] at h; cases h
   | some y => rw [z] at h; cases h; rfl
theorem Sim.ini (S:Sim K F α e μ σ H) (mp:List (Option Nat)):Sim K F α (Fw.ini mp e) μ (iniV mp σ) H:=by
 refine ⟨S.st,fun i x h => ?_,by unfold Fw.ini iniV; rw [List.length_map,List.length_map]⟩
 obtain ⟨j,hj,hx⟩:=slot_ini h
 obtain ⟨v,hv,ok⟩:=S.sl j x hx
 refine ⟨v,?_,ok⟩
 unfold iniV
 rw [List.getElem?_map,hj]
 simp [hv]
theorem StOk.poke {p:Addr} {o:HO} (S:StOk K F α μ H) (h1:F p = none) (h2:p ∉ α):StOk K F α μ (upd H p o):=by
 have na:∀ {k:Nat} {a:Addr},α[k]? = some a → a ≠ p:=fun {k a} h q => h2 (by rw [← q]; exact List.mem_of_getElem? h)
 refine ⟨fun a z hz => ?_,S.len,S.nd,fun k a g => ?_,fun k b u a g1 g2 => ?_⟩
 ·rw [upd_ne (fun q => by subst q; rw [h1] at hz; cases hz)]; exact S.ext a z hz
 ·rw [upd_ne (na g)]; exact S.there k a g
 ·obtain ⟨c1,c2⟩:=S.cell k b u a g1 g2
  refine ⟨fun hb => ⟨(c1 hb).1,?_⟩,c2⟩
  have d2:=(c1 hb).2
  cases u with
  | lst ts => obtain ⟨vs,w1,w2⟩:=d2; exact ⟨vs,by rw [upd_ne (na g2)]; exact w1,w2⟩
  | dct ts => obtain ⟨vs,w1,w2⟩:=d2; exact ⟨vs,by rw [upd_ne (na g2)]; exact w1,w2⟩
  | _ => exact d2.elim
theorem Ex.poke {p:Addr} {o:HO} (x:Ex F α H F' α' H') (h:H p = none):Ex F α H F' α' (upd H' p o):=⟨x.same,x.pre,fun b z h1 h2 h3 => by
 obtain ⟨g1,g2,g3⟩:=x.fr b z h1 h2 h3
 exact ⟨by rw [upd_ne (fun q => by subst q; rw [h] at h1; cases h1)]; exact g1,g2,g3⟩⟩
theorem Sim.back {e':Slots} (S:Sim K F α e' μ σ H) (hl:e.length = e'.length) (h:∀ j x,slot e j = some x → slot e' j = some x):Sim K F α e μ σ H :=
 ⟨S.st,fun i x g => S.sl i x (h i x g),by rw [hl]; exact S.len⟩
end
section
variable {X:Cx} {elt iter tg:Expr} {ifs:List Expr} {scope:Scope} {pos:Pos} {N':List Str} {mp:List (Option Nat)} {di:DI} {b:BD} {dc d:D}
noncomputable def Leaves (mp:List (Option Nat)) (b:BD):Prop:=∀ t e e1,b t (ini mp e) = some e1 → (ini mp e).length = e1.length ∧ ∀ j x,slot (ini mp e) j = some x → slot e1 j = some x
theorem slot_set_ne {e:Slots} {i j:Nat} {x:SV} (h:i ≠ j):slot (e.set i (some x)) j = slot e j:=by
 unfold slot
 rw [List.getElem?_set_ne h]
theorem leaves_name {i:Nat} (h:mp[i]? = some none):Leaves mp (bName i):=fun t e e1 hb => by
 cases hb
 refine ⟨by rw [List.length_set],fun j x hx => ?_⟩
 obtain ⟨k,hk,_⟩:=slot_ini hx
 rw [slot_set_ne (fun q => by subst q; rw [h] at hk; cases hk)]; exact hx
theorem leaves_pair {i i':Nat} (h:mp[i]? = some none) (h':mp[i']? = some none):Leaves mp (bTup [i,i']):=fun t e e1 hb => by
 cases t with
 | tup ts =>
  unfold bTup at hb
  simp only at hb
  by_cases hl:ts.length = [i,i'].length
  ·rw [if_pos hl] at hb
   match ts,hl with
   | [t1,t2],_ =>
    cases hb
    refine ⟨by simp,fun j x hx => ?_⟩
    obtain ⟨k,hk,_⟩:=slot_ini hx
    have n1:i ≠ j:=fun q => by subst q; rw [h] at hk; cases hk
    have n2:i' ≠ j:=fun q => by subst q; rw [h'] at hk; cases hk
    simp only [List.zip_cons_cons,List.zip_nil_right,List.foldl_cons,List.foldl_nil]
    rw [slot_set_ne n2,slot_set_ne n1]; exact hx
  ·rw [if_neg hl] at hb; cases hb
 | _ => cases hb
theorem pifs_true {X':Cx}:PIfs X' [] (tDT X' (dC (.bl true))):=fun pins s σ H Q I hX11_ => by
 obtain ⟨F,α,e,μ,S,h⟩:=hX11_
 obtain ⟨b,hb,h⟩:=h
 cases hb
 exact pifs_nil pins s σ H Q I (h H F α Ex.refl S)
theorem pifs_test {X':Cx} {c:Expr} (h:CT X' c dc):PIfs X' [c] (tDT X' dc):=pifs_one h
noncomputable def oD (K:PySem.W.Frag) (d:D):TE:=fun σ H Q => ∃ F α e μ x μ',Sim K F α e μ σ H ∧ d e μ = .ok x μ' ∧ Post K F α H e σ Q x μ'
noncomputable def oDT (K:PySem.W.Frag) (d:D):TT:=fun σ H Q => ∃ F α e μ b μ',Sim K F α e μ σ H ∧ d e μ = .ok (.val (.bl b)) μ' ∧
 ∀ H' F' α',Ex F α H F' α' H' → Sim K F' α' e μ' σ H' → Q b H'
theorem oD_of {X':Cx} {σ:L2.St} {H:Hp} {Q:VK} (h:oD X'.K d σ H Q):tD X' d σ H Q:=by
 obtain ⟨F,α,e,μ,x,μ',S,h,p⟩:=h
 exact ⟨F,α,e,μ,S,by rw [h]; exact p⟩
theorem oDT_of {X':Cx} {σ:L2.St} {H:Hp} {Q:Bool → Hp → Prop} (h:oDT X'.K d σ H Q):tDT X' d σ H Q:=by
 obtain ⟨F,α,e,μ,b,μ',S,h,p⟩:=h
 exact ⟨F,α,e,μ,S,by rw [h]; exact ⟨b,rfl,p⟩⟩
inductive CIv (K:PySem.W.Frag) (same:Store → Prop) (items:List T) (b:BD) (dc d:D) (e0:Slots) (us:List T) (μ':Store) (F1:Hp) (α1:List Addr) (H1:Hp) (p:Addr) (i:Nat) (σ':L2.St) (Hc:Hp):Prop
 | mk (F2:Hp) (α2:List Addr) (μ3:Store) (done rest:List T) (vs:List V) (x2:Ex F1 α1 H1 F2 α2 Hc) (S2:Sim K F2 α2 e0 μ3 σ' Hc) (n1:F2 p = none) (n2:p ∉ α2) (hv:Hc p = some (.lst vs)) (hr:RepL K F2 done vs) (hdl:done.length ≤ i) (hL:compL same b dc d e0 (items.drop i) μ3 = .ok rest μ') (hu:us = done ++ rest)
theorem comp_read {σ:L2.St} {H:Hp} {Q:VK} (hb:Leaves mp b) (h:tF X (dComp di mp b dc d) σ H Q):tDI X di σ H fun J H1 => tLoop J mp (tBd X.K b) (oDT X.K dc) (oD X.K d) σ H1 Q:=by
 obtain ⟨F,α,e,μ,S,h⟩:=h
 refine ⟨F,α,e,μ,S,(R.wp_bind h).mono (fun W μ1 h J H1 F1 α1 x1 S1 ok => ?_) fun _ _ h => h⟩
 cases hL:(compL W.same b dc d (ini mp e) W.items μ1).calm with
 | err c μ' => cases q:compL W.same b dc d (ini mp e) W.items μ1 <;> rw [q] at hL <;> cases hL
 | bad => rw [hL] at h; exact h.elim
 | ok us μ' =>
 rw [hL] at h
 have hL:=R.calm_eq hL
 rw [R.bind_ok] at h
 by_cases hz:W.items.length ≤ szL
 ·rw [if_pos hz] at h
  obtain ⟨t,et,post⟩:=h
  cases et
  intro p hp
  refine ⟨fun i m σ' Hc => m = W.items.length - i ∧ i ≤ W.items.length ∧ CIv X.K W.same W.items b dc d (ini mp e) us μ' F1 α1 H1 p i σ' Hc,
   ⟨_,rfl,Nat.zero_le _,.mk F1 α1 μ1 [] us [] (Ex.lay hp) ((S1.ini mp).of (Same.refl _) (List.prefix_refl _) (S1.st.lay hp)) (S1.st.ext.free hp) (not_mem_of_none S1.st hp) upd_same RepL.nil' (Nat.zero_le _) hL rfl⟩,?_⟩
  rintro i m σ2 H2 ⟨rfl,hi',hC⟩
  obtain ⟨F2,α2,μ3,done,rest,vs,x2,S2,n1,n2,hv,hr,hdl,hL,hu⟩:=hC
  by_cases hlt:i < W.items.length
  ·rw [List.drop_eq_getElem_cons hlt] at hL
   unfold compL at hL
   by_cases hs:W.same μ3
   ·rw [if_pos hs] at hL
    obtain ⟨g1,g2⟩:=ok F2 α2 μ3 H2 x2.same x2.pre S2.st hs
    obtain ⟨go,yl⟩:=g1 i W.items[i] (by simp [hlt])
    cases hb':b W.items[i] (ini mp e) with
    | none => simp only [hb'] at hL; cases hL
    | some e3 =>
     simp only [hb'] at hL
     obtain ⟨y0,μ4,hy,hL⟩:=R.bind_eq_ok hL
     have hy:=R.calm_eq hy
     obtain ⟨k,μ5,hk,hK⟩:=R.bind_eq_ok hL
     obtain ⟨hk1,hk2⟩:=R.lift_eq_ok hk
     subst hk2
     have ek:=asB_eq hk1
     rw [ek] at hy
     clear hL hk hk1 ek
     obtain ⟨hl3,hb3⟩:=hb _ _ _ hb'
     refine .inr ⟨go,CIv X.K W.same W.items b dc d (ini mp e) us μ' F1 α1 H1 p (i + 1),fun σ' H' q => ⟨W.items.length - (i + 1),by lia,rfl,hlt,q⟩,fun x H3 yy => ?_⟩
     obtain ⟨F3,gr,rp⟩:=yl x H3 yy
     have x3:Ex F2 α2 H2 F3 α2 H3:=gr.ex S2.st.ext
     refine ⟨F3,α2,ini mp e,μ3,W.items[i],e3,S2.grow gr,rp,hb',fun σ4 S4 => ?_⟩
     refine ⟨F3,α2,e3,μ3,k,μ4,S4,hy,fun H5 F5 α5 x5 S5 => ?_⟩
     obtain ⟨v3,n3,m3⟩:=x3.fr p _ hv n1 n2
     obtain ⟨v5,n5,m5⟩:=x5.fr p _ v3 n3 m3
     cases k with
     | false =>
      rw [if_neg Bool.false_ne_true] at hK ⊢
      exact .mk F5 α5 μ4 done rest vs (x2.trans (x3.trans x5)) (S5.back hl3 hb3) n5 m5 v5 (RepL.mono (x3.same.trans x5.same) _ _ hr) (Nat.le_succ_of_le hdl) hK hu
     | true =>
      rw [if_pos rfl] at hK ⊢
      obtain ⟨y2,μ6,hd,hK⟩:=R.bind_eq_ok hK
      have hd:=R.calm_eq hd
      obtain ⟨u,μ7,hfz,hK⟩:=R.bind_eq_ok hK
      obtain ⟨us',μ8,hL2,hK⟩:=R.bind_eq_ok hK
      cases hK
      refine ⟨F5,α5,e3,μ4,y2,μ6,S5,hd,fun v H6 F6 α6 x6 S6 o6 => ?_⟩
      obtain ⟨v6,n6,m6⟩:=x6.fr p _ v5 n5 m5
      obtain ⟨F7,s7,ne7,S7,r7⟩:=frz_ok S6.st o6 hfz
      have hvl:vs.length < sizeLine:=by
       have:=hr.length
       have hz':W.items.length ≤ sizeLine:=hz
       lia
      have n7:F7 p = none:=by rw [ne7 p m6]; exact n6
      have x7:Ex F1 α1 H1 F7 α6 H6:=x2.trans (x3.trans (x5.trans (x6.trans (Ex.of_ne s7 ne7))))
      refine ⟨p,vs,v,rfl,rfl,v6,hvl,.mk F7 α6 μ7 (done ++ [u]) us' (vs ++ [v]) (x7.poke hp) ?_ n7 m6 upd_same ?_ ?_ hL2 ?_⟩
      ·exact ((S6.back hl3 hb3).of s7 (List.prefix_refl _) S7).of (Same.refl _) (List.prefix_refl _) (S7.poke n7 m6)
      ·exact (RepL.mono (x3.same.trans (x5.same.trans (x6.same.trans s7))) _ _ hr).append (RepL.one r7)
      ·rw [List.length_append,List.length_singleton]; lia
      ·rw [hu,List.append_assoc]; rfl
   ·rw [if_neg hs] at hL; cases hL
  ·have e1:i = W.items.length:=by lia
   subst e1
   rw [List.drop_length] at hL
   unfold compL at hL
   by_cases hs:W.same μ3
   ·rw [if_pos hs] at hL
    cases hL
    obtain ⟨g1,g2⟩:=ok F2 α2 _ H2 x2.same x2.pre S2.st hs
    refine .inl ⟨g2,post p H2 F2 α2 (x1.trans x2) (S1.of x2.same x2.pre S2.st) (x1.was S1.st hp) n1 n2 ⟨vs,hv,?_⟩⟩
    rw [hu,List.append_nil]; exact hr
   ·rw [if_neg hs] at hL; cases hL
 ·rw [if_neg hz] at h; exact h.elim
theorem dComp_val {e:Slots} {μ μ':Store} {x:SV} (h:dComp di mp b dc d e μ = .ok x μ'):∃ t,x = .val t:=by
 unfold dComp at h
 obtain ⟨W,μ1,hW,h⟩:=R.bind_eq_ok h
 obtain ⟨us,μ2,hL,h⟩:=R.bind_eq_ok h
 by_cases hz:W.items.length ≤ szL
 ·rw [if_pos hz] at h; cases h; exact ⟨_,rfl⟩
 ·rw [if_neg hz] at h; cases h
theorem PIfs.imp {X':Cx} {cs:List Expr} {t t':TT} (h:PIfs X' cs t) (i:∀ σ H Q,t' σ H Q → t σ H Q):PIfs X' cs t':=fun pins s σ H Q I q => h pins s σ H Q I (i σ H Q q)
theorem cf_comp (hx:X.xe = fun _ _ => False) (hS:CompScope X N' scope mp) (hcalm:X.calm = true) (hb:Leaves mp b) (hi:CI X tg iter di) (hg:∀ cl C s₀ H₀ ex,CB (compCx X N' scope cl C s₀ H₀ ex) tg b)
  (hc:∀ cl C s₀ H₀ ex,PIfs (compCx X N' scope cl C s₀ H₀ ex) ifs (tDT (compCx X N' scope cl C s₀ H₀ ex) dc)) (he:∀ cl C s₀ H₀ ex,CE (compCx X N' scope cl C s₀ H₀ ex) elt d) (hs:∀ x,foldedSetIterable iter X.env x = pure x:=by intro _; rfl) :
  CF X (.ListComp elt [⟨tg,iter,ifs,0⟩] scope pos) (dComp di mp b dc d) :=
 ⟨PE.imp (pe_comp hx hS hcalm hi (g:=tBd X.K b) hg (fun cl C s₀ H₀ ex => PIfs.imp (hc cl C s₀ H₀ ex) fun σ H Q q => oDT_of (X':=compCx X N' scope cl C s₀ H₀ ex) q) (te:=oD X.K d) (fun cl C s₀ H₀ ex => PE.imp (he cl C s₀ H₀ ex) fun σ H Q q => oD_of (X':=compCx X N' scope cl C s₀ H₀ ex) q) hs) fun σ H Q q => comp_read hb q,fun _ _ _ _ h => dComp_val h⟩
theorem cs_set_comp (i:Nat) {y:Str} {py spos:Pos} (hx:X.xe = fun _ _ => False) (hS:CompScope X N' scope mp) (hcalm:X.calm = true) (hb:Leaves mp b) (hi:CI X tg iter di) (hg:∀ cl C s₀ H₀ ex,CB (compCx X N' scope cl C s₀ H₀ ex) tg b)
  (hc:∀ cl C s₀ H₀ ex,PIfs (compCx X N' scope cl C s₀ H₀ ex) ifs (tDT (compCx X N' scope cl C s₀ H₀ ex) dc)) (he:∀ cl C s₀ H₀ ex,CE (compCx X N' scope cl C s₀ H₀ ex) elt d) (hN:X.N.Nodup) (hiN:X.N[i]? = some y:=by rfl) (hl:Loc X.env.scope y:=by first | exact Or.inl rfl | exact Or.inr rfl)
  (hsw:swapsWith (.ListComp elt [⟨tg,iter,ifs,0⟩] scope pos) (some (.Name y py)) spos.line X.env = pure true:=by rfl) (hs:∀ x,foldedSetIterable iter X.env x = pure x:=by intro _; rfl)
  (hf:X.fn y = true ∨ X.env.scope.names.lookup y = some .local:=by first | exact .inl rfl | exact .inr rfl | assumption) :
  PS X (.Assign [.Name y py] (.ListComp elt [⟨tg,iter,ifs,0⟩] scope pos) spos) (fun D σ H => tF X (dComp di mp b dc d) σ H fun v H1 => D.nx (σ.set i (some v)) H1) :=
 PS.imp (ps_set_comp hx hS hcalm hi (g:=tBd X.K b) hg (fun cl C s₀ H₀ ex => PIfs.imp (hc cl C s₀ H₀ ex) fun σ H Q q => oDT_of (X':=compCx X N' scope cl C s₀ H₀ ex) q) (te:=oD X.K d) (fun cl C s₀ H₀ ex => PE.imp (he cl C s₀ H₀ ex) fun σ H Q q => oD_of (X':=compCx X N' scope cl C s₀ H₀ ex) q) hN hiN hl hsw hs hf) fun D σ H q => comp_read hb q
theorem cs_of_setV {st:Stmt} {i:Nat} {da:D} (h:PS X st (fun D σ H => tF X da σ H fun v H1 => D.nx (σ.set i (some v)) H1)) (hv:∀ e μ x μ',da e μ = .ok x μ' → ∃ t,x = .val t):CS X st (sSet i da) :=
 PS.imp h fun D σ H ⟨F,α,e,μ,S,h⟩ => ice_read hv ⟨F,α,e,μ,S,(PostS.toS h).mono (fun x μ1 h v H1 F1 α1 x1 S1 o1 => h _ H1 F1 α1 x1 (S1.set o1)) fun _ _ h => h⟩
end
noncomputable def spD (K:PySem.W.Frag) (fn:FN) (n:Nat):Sp:=fun vs H Q _ => vs.length = n ∧ ∃ F α μ xs r μ',StOk K F α μ H ∧ Paired (fun v x => SvOk K F α v x) vs xs ∧ fn xs μ = .ok r μ' ∧
 ∀ v H' F' α',Ex F α H F' α' H' → StOk K F' α' μ' H' → SvOk K F' α' v r → Q v H'
section
variable {X:Cx} {f:Addr} {fd:FuncData} {ps:List Str} {x:Str} {p pos:Pos} {e:Expr} {es:List Expr} {ds:List D} {fn:FN} {k:Nat}
theorem call_read {σ:L2.St} {H:Hp} {Q:VK} (hl:ds.length = ps.length) (h:tD X (dCall (cal fn) ds) σ H Q):tCall (spD X.K fn ps.length) [] E0 (tDA X ds) σ H Q:=by
 obtain ⟨F,α,e,μ,S,h⟩:=h
 refine ⟨F,α,e,μ,S,(dArgs_wp_len (R.wp_bind h)).mono (fun xs μ1 hX11_ vs H1 F1 α1 x1 S1 o1 => ?_) fun _ _ h => h⟩
 obtain ⟨hn,h⟩:=hX11_
 show spD X.K fn ps.length (vs ++ []) H1 Q E0
 rw [List.append_nil]
 have h:((fn xs μ1).calm).wp (Post X.K F α H e σ Q) (XPost X F α H e):=h
 cases q:fn xs μ1 with
 | err c μ2 => rw [q] at h; exact h.elim
 | bad => rw [q] at h; exact h.elim
 | ok r μ2 =>
  rw [q] at h
  exact ⟨by rw [o1.length,hn,hl],F1,α1,μ1,xs,r,μ2,S1.st,o1,q,fun v H2 F2 α2 x2 S2 o2 => h v H2 F2 α2 (x1.trans x2) (S1.of x2.same x2.pre S2) o2⟩
theorem ce_call (G:FnOk X.prog X.w X.K X.mg X.base CX0 k f fd ps (spD X.K fn ps.length)) (hr:Room k X.A) (hm:X.mg x = some (.ref f)) (hk:PySem.W.keepIn X.K (.ref f) = true) (hb:Binds X.K fd ps []) (ha:CA X (e :: es) ds)
  (hl:ds.length = ps.length:=by rfl) (hg:Gl X x:=by rfl) (hdb:(x == ("__debug__":Str)) = false:=by decide) (he:starEach (e :: es) X.env = (false,eval e X.env) :: starEach es X.env:=by rfl) (hpl:(backTo pos (starEach es X.env)).any (·.1) = false:=by rfl) :
  CE X (.Call (.Name x p) (e :: es) [] pos) (dCall (cal fn) ds):=PE.imp (pe_call G hr hg hm hk hb .nil pass0 ha hdb he hpl) fun σ H Q q => call_read hl q
theorem ce_blt1 {id:String} {r:List V → Hp → VK → Prop} {g:T → Option T} {d:D} (hc:CallR X (.builtin id) r) (hs:CallSem1 X.K r g) (hm:X.mg x = none) (hv:bootBuiltins x = some (.builtin id)) (ha:CE X e d) (hg:Gl X x:=by rfl) (hn:x ≠ "__name__":=by decide)
  (hdb:(x == ("__debug__":Str)) = false:=by decide) (hs1:starEach [e] X.env = (false,eval e X.env) :: starEach [] X.env:=by rfl) (hpl:(backTo pos (starEach [] X.env)).any (·.1) = false:=by rfl):CE X (.Call (.Name x p) [e] [] pos) (dUn g d) :=
 PE.imp (pe_callB hc hg hm hv (ca_cons ha ca_nil hs1) hn hdb hs1 hpl) (call1 hs)
theorem ce_ty1 {id:String} {r:List V → Hp → VK → Prop} {g:T → Option T} {d:D} (hc:CallR X (.type id) r) (hs:CallSem1 X.K r g) (hm:X.mg x = none) (hv:bootBuiltins x = some (.type id)) (ha:CE X e d) (hg:Gl X x:=by rfl) (hn:x ≠ "__name__":=by decide)
  (hdb:(x == ("__debug__":Str)) = false:=by decide) (hs1:starEach [e] X.env = (false,eval e X.env) :: starEach [] X.env:=by rfl) (hpl:(backTo pos (starEach [] X.env)).any (·.1) = false:=by rfl):CE X (.Call (.Name x p) [e] [] pos) (dUn g d) :=
 PE.imp (pe_callTy hc hg hm hv (ca_cons ha ca_nil hs1) hn hdb hs1 hpl) (call1 hs)
theorem cf_ty1 {id:String} {r:List V → Hp → VK → Prop} {g:T → Option T} {d:D} (hc:CallR X (.type id) r) (hs:CallSemF X.K r g) (hm:X.mg x = none) (hv:bootBuiltins x = some (.type id)) (ha:CE X e d) (hg:Gl X x:=by rfl) (hn:x ≠ "__name__":=by decide)
  (hdb:(x == ("__debug__":Str)) = false:=by decide) (hs1:starEach [e] X.env = (false,eval e X.env) :: starEach [] X.env:=by rfl) (hpl:(backTo pos (starEach [] X.env)).any (·.1) = false:=by rfl):CF X (.Call (.Name x p) [e] [] pos) (dUn g d) :=
 ⟨PE.imp (pe_callTy hc hg hm hv (ca_cons ha ca_nil hs1) hn hdb hs1 hpl) (call1F hs),fun _ _ _ _ h => dUn_val h⟩
end
inductive Md where
 | V | D | K
noncomputable def Md.fn:Md → Nat → DS → FN
 | .V => fnV
 | .D => fnD
 | .K => fnK
section
variable {P:Program} {w:World} {K:PySem.W.Frag} {mg:Str → Option Value} {base:Heap}
theorem sim_start {F H:Hp} {α:List Addr} {μ:Store} {N:List Str} {vs:List V} {xs:List SV} (S:StOk K F α μ H) (o:Paired (fun v x => SvOk K F α v x) vs xs):Sim K F α (starts N.length xs) μ (L2.start N vs) H:=by
 unfold starts
 have hl:=o.length
 refine ⟨S,fun i x h => ?_,by unfold L2.start; simp [hl]⟩
 have get:∀ {vs:List V} {xs:List SV} {i:Nat} {x:SV},Paired (fun v x => SvOk K F α v x) vs xs → xs[i]? = some x → ∃ v,vs[i]? = some v ∧ SvOk K F α v x:=fun {vs} => by
  intro xs i x o
  induction o generalizing i with
  | nil => intro e; simp at e
  | cons r _ ih =>
   intro e
   cases i with
   | zero => simp at e; subst e; exact ⟨_,rfl,r⟩
   | succ i =>
    obtain ⟨v,h1,h2⟩:=ih (i:=i) (by simpa using e)
    exact ⟨v,by simpa using h1,h2⟩
 unfold slot at h
 by_cases hi:i < xs.length
 ·rw [List.getElem?_append_left (by simpa using hi),List.getElem?_map] at h
  cases q:xs[i]? with
  | none => rw [q] at h; cases h
  | some y =>
   rw [q] at h
   cases h
   obtain ⟨v,h1,h2⟩:=get o q
   refine ⟨v,?_,h2⟩
   unfold L2.start
   rw [List.getElem?_append_left (by simpa [hl] using hi),List.getElem?_map,h1]
   rfl
 ·rw [List.getElem?_append_right (by simpa using hi),List.getElem?_replicate] at h
  split at h <;> rename_i q
  ·split at q <;> cases q
  ·cases h
theorem fn_ok {x qual:Str} {st:Stmt} {f:Addr} {fd:FuncData} {N ps:List Str} {k:Nat} {d:DS} (md:Md) (F:Fun K x qual st f fd) (S:FnScope N ps (defScope st))
  (hb:∀ (cdv:Value) (A:Around) (outer:List Env) (s:Shared) (H:Hp) (E:XK),Room k (A.deeper (envOfC qual (defScope st) s.heap.objs.size f cdv)) → CSs (cxOf CX0 P w K mg base N qual (defScope st) f cdv A outer s H E).nox (defBody st) d) :
  FnOk P w K mg base CX0 (k + 1) f fd ps (spD K (md.fn N.length d) ps.length):=by
 refine F.ok S (fun vs H Q E h => h.1) fun cdv A outer s H vs Q E hr h => ⟨_,hb cdv A outer s H E hr,?_⟩
 obtain ⟨hl,F0,α,μ,xs,r,μ',S0,o,h,post⟩:=h
 refine ⟨F0,α,_,μ,sim_start S0 o,?_⟩
 have fin:∀ {y:SV} {μ1:Store} {v:V} {H1 F1:Hp} {α1:List Addr},(match md with
   | .V => ice μ.length y μ1
   | .D => gc μ.length y μ1
   | .K => .ok y μ1) = .ok r μ' → Ex F0 α H F1 α1 H1 → StOk K F1 α1 μ1 H1 → SvOk K F1 α1 v y → Q v H1:=fun {y μ1 v H1 F1 α1} hg x1 S1 o1 => by
  cases md with
  | V =>
   obtain ⟨F2,g1,g2,g3,g4⟩:=ice_ok S0.len x1.pre S1 o1 hg
   exact post v H1 F2 α ⟨x1.same.trans g1,List.prefix_refl _,fun b z h1 h2 h3 => let ⟨a1,a2,a3⟩:=x1.fr b z h1 h2 h3; ⟨a1,by rw [g2 b a3]; exact a2,h3⟩⟩ g3 g4
  | D =>
   obtain ⟨γ,g1,g2,g3,g4⟩:=gc_ok S0.len x1.pre S1 o1 hg
   exact post v H1 F1 γ ⟨x1.same,g1,fun b z h1 h2 h3 => let ⟨a1,a2,a3⟩:=x1.fr b z h1 h2 h3; ⟨a1,a2,fun hm => a3 (g2 b hm)⟩⟩ g3 g4
  | K =>
   cases hg
   exact post v H1 F1 α1 x1 S1 o1
 cases q:d (starts N.length xs) μ with
 | rt y μ1 => exact fun v H1 F1 α1 x1 S1 o1 => fin (by cases md <;> (simp only [Md.fn,fnV_is,fnD_is,fnK_is,q] at h; exact h)) x1 S1 o1
 | nx e1 μ1 => exact fun σ1 H1 F1 α1 x1 S1 => fin (y:=.val .non) (by cases md <;> (simp only [Md.fn,fnV_is,fnD_is,fnK_is,q] at h; exact h)) x1 S1.st (Rep.non' (K:=K) (F:=F1))
 | bk e1 μ1 => cases md <;> (simp only [Md.fn,fnV_is,fnD_is,fnK_is,q] at h; cases h)
 | ct e1 μ1 => cases md <;> (simp only [Md.fn,fnV_is,fnD_is,fnK_is,q] at h; cases h)
 | err c e1 μ1 => cases md <;> (simp only [Md.fn,fnV_is,fnD_is,fnK_is,q] at h; cases h)
 | bad => cases md <;> (simp only [Md.fn,fnV_is,fnD_is,fnK_is,q] at h; cases h)
end
end Fw
namespace Fw
open PySem
section
variable {α:Type} {μ:List α} {a b c x:α} {l:List α}
@[simp] theorem st_get0:(μ ++ a :: l)[μ.length]? = some a:=by simp
@[simp] theorem st_set0:(μ ++ a :: l).set μ.length x = μ ++ x :: l:=by simp
@[simp] theorem st_take:(μ ++ l).take μ.length = μ:=by simp
end
@[simp] theorem rd_cel (μ:Store) (k:Nat):rd μ (.cel k) = (μ[k]?).map (·.2):=(rfl)
@[simp] theorem ice_val (n:Nat) (t:T) (μ:Store):ice n (.val t) μ = .ok (.val t) (μ.take n):=(rfl)
@[simp] theorem lsts_st0 (μ l:Store) (b:Bool) (ts:List T):lsts (.cel μ.length) (μ ++ (b,.lst ts) :: l) = some ():=lsts_at (b:=b) (ts:=ts) (by simp)
theorem append_at {μ:Store} {k:Nat} {ts:List T} {t:T} (h:μ[k]? = some (true,.lst ts)) (hl:ts.length < szL):appendAt (.cel k) t μ = some (μ.set k (true,.lst (ts ++ [t]))):=by
 unfold appendAt; simp only [h]; rw [if_pos hl]
theorem append_st0 (μ l:Store) (ts:List T) (t:T) (hl:ts.length < szL):appendAt (.cel μ.length) t (μ ++ (true,.lst ts) :: l) = some (μ ++ (true,.lst (ts ++ [t])) :: l):=by
 rw [append_at (ts:=ts) (by simp) hl]; simp
theorem setAt_at {μ:Store} {k:Nat} {ts:List T} {t:T} {i:Int} (h:μ[k]? = some (true,.lst ts)) (h0:0 ≤ i) (h1:i < ts.length):setAt (.cel k) (.int i) t μ = some (μ.set k (true,.lst (ts.set i.toNat t))):=by
 unfold setAt; simp only [h]; unfold ixN; rw [if_pos h0,if_pos h1]; rfl
@[simp] theorem starts_is (m:Nat) (xs:List SV):starts m xs = xs.map some ++ List.replicate (m - xs.length) none:=(rfl)
theorem atI_nat {α:Type} {xs:List α} {i:Int} (h0:0 ≤ i):atI xs i = xs[i.toNat]?:=by
 unfold atI ixN
 rw [if_pos h0]
 by_cases h:i < xs.length
 ·rw [if_pos h]; rfl
 ·rw [if_neg h]
  exact (List.getElem?_eq_none (by lia)).symm
theorem atI_map {α β:Type} {xs:List α} {f:α → β} {i:Int} (h0:0 ≤ i) (h1:i < xs.length):atI (xs.map f) i = some (f (xs[i.toNat]'(by lia))):=by
 rw [atI_nat h0,List.getElem?_map,List.getElem?_eq_getElem (by lia)]; rfl
@[simp] theorem atI_zero {α:Type} (x:α) (xs:List α):atI (x :: xs) 0 = some x:=by rw [atI_nat (by lia)]; rfl
@[simp] theorem atI_one {α:Type} (x y:α) (xs:List α):atI (x :: y :: xs) 1 = some y:=by rw [atI_nat (by lia)]; rfl
@[simp] theorem atI_two {α:Type} (x y z:α) (xs:List α):atI (x :: y :: z :: xs) 2 = some z:=by rw [atI_nat (by lia)]; rfl
noncomputable def irange (lo:Int) (n:Nat):List Int:=(List.range n).map fun (k:Nat) => lo + (k:Int)
theorem intsT_eq (lo:Int) (n:Nat):intsT lo n = (irange lo n).map T.int:=by
 unfold irange
 induction n generalizing lo with
 | zero => rfl
 | succ n ih =>
  rw [intsT,ih (lo + 1),List.range_succ_eq_map]
  simp only [List.map_cons,List.map_map]
  congr 1
  ·simp
  ·apply List.map_congr_left
   intro k _
   simp only [Function.comp]
   congr 1
   lia
@[simp] theorem irange_length (lo:Int) (n:Nat):(irange lo n).length = n:=by simp [irange]
theorem mem_irange {lo:Int} {n:Nat} {k:Int}:k ∈ irange lo n ↔ lo ≤ k ∧ k < lo + n:=by
 unfold irange
 rw [List.mem_map]
 constructor
 ·rintro ⟨j,hj,rfl⟩
  rw [List.mem_range] at hj
  lia
 ·rintro ⟨h1,h2⟩
  exact ⟨(k - lo).toNat,by rw [List.mem_range]; lia,by lia⟩
theorem irange_get {lo:Int} {n i:Nat} {k:Int} (h:(irange lo n)[i]? = some k):i < n ∧ k = lo + i:=by
 unfold irange at h
 rw [List.getElem?_map] at h
 by_cases hi:i < n
 ·rw [List.getElem?_range hi] at h
  cases h
  exact ⟨hi,rfl⟩
 ·rw [List.getElem?_eq_none (by simpa using hi)] at h
  cases h
theorem intsT_at {lo:Int} {n i:Nat} {t:T} (h:(intsT lo n)[i]? = some t):i < n ∧ t = .int (lo + i):=by
 rw [intsT_eq,List.getElem?_map] at h
 cases q:(irange lo n)[i]? with
 | none => rw [q] at h; cases h
 | some k =>
  rw [q] at h
  cases h
  obtain ⟨h1,rfl⟩:=irange_get q
  exact ⟨h1,rfl⟩
theorem intsT_k {lo:Int} {n i:Nat} {t:T} (h:(intsT lo n)[i]? = some t):∃ k:Int,t = .int k ∧ i < n ∧ k = lo + i:=by
 obtain ⟨h1,rfl⟩:=intsT_at h
 exact ⟨_,rfl,h1,rfl⟩
@[simp] theorem intsT_len (lo:Int) (n:Nat):(intsT lo n).length = n:=by rw [intsT_eq]; simp
theorem fAll_map {α:Type} (g:α → Bool) (xs:List α):fAll (.lst (xs.map fun k => T.bl (g k))) = some (.bl (xs.all g)):=by
 have e:(xs.map fun k => T.bl (g k)) = (xs.map g).map T.bl:=by simp
 rw [e,fAll_bls]; simp [List.all_map]
noncomputable def RS.goes (r:RS) (J:Slots → Store → Prop) (P:RS → Prop):Prop:=match r with
 | .nx e μ => J e μ
 | .ct e μ => J e μ
 | .bk e μ => P (.nx e μ)
 | r => P r
@[simp] theorem goes_nx (e:Slots) (μ:Store) (J:Slots → Store → Prop) (P:RS → Prop):(RS.nx e μ).goes J P = J e μ:=(rfl)
theorem forL_inv {same:Store → Prop} {b:BD} {body:DS} (P:RS → Prop) (I:Nat → Slots → Store → Prop) (hs:∀ i e μ,I i e μ → same μ) {ts:List T}
  (step:∀ i t e μ,ts[i]? = some t → I i e μ → ∃ e1,b t e = some e1 ∧ (body e1 μ).goes (I (i + 1)) P) (fin:∀ e μ,I ts.length e μ → P (.nx e μ)) {e:Slots} {μ:Store} (h:I 0 e μ):P (forL same b body ts e μ):=by
 have all:∀ (us:List T) (i:Nat) (e:Slots) (μ:Store),ts.drop i = us → I i e μ → i ≤ ts.length → P (forL same b body us e μ):=by
  intro us
  induction us with
  | nil =>
   intro i e μ hd hI hi
   have hl:ts.length ≤ i:=by
    have:=congrArg List.length hd
    simp at this
    lia
   have e1:i = ts.length:=by lia
   subst e1
   unfold forL
   rw [if_pos (hs _ _ _ hI)]
   exact fin e μ hI
  | cons t us ih =>
   intro i e μ hd hI hi
   have hlt:i < ts.length:=by
    have:=congrArg List.length hd
    simp at this
    lia
   have hg:ts[i]? = some t:=by
    have:(ts.drop i)[0]? = some t:=by rw [hd]; rfl
    rw [List.getElem?_drop] at this
    simpa using this
   have hd':ts.drop (i + 1) = us:=by
    rw [← List.tail_drop,hd]; rfl
   obtain ⟨e1,h1,h2⟩:=step i t e μ hg hI
   unfold forL
   rw [if_pos (hs _ _ _ hI)]
   simp only [h1]
   cases q:body e1 μ with
   | nx e2 μ2 => rw [q] at h2; exact ih (i + 1) e2 μ2 hd' h2 hlt
   | ct e2 μ2 => rw [q] at h2; exact ih (i + 1) e2 μ2 hd' h2 hlt
   | bk e2 μ2 => rw [q] at h2; exact h2
   | rt x μ2 => rw [q] at h2; exact h2
   | err c e2 μ2 => rw [q] at h2; exact h2
   | bad => rw [q] at h2; exact h2
 exact all ts 0 e μ rfl h (Nat.zero_le _)
theorem forL_nx {same:Store → Prop} {b:BD} {body:DS} (I:Nat → Slots → Store → Prop) (hs:∀ i e μ,I i e μ → same μ) {ts:List T}
  (step:∀ i t e μ,ts[i]? = some t → I i e μ → ∃ e1 e2 μ2,b t e = some e1 ∧ body e1 μ = .nx e2 μ2 ∧ I (i + 1) e2 μ2) {e:Slots} {μ:Store} (h:I 0 e μ):∃ e' μ',forL same b body ts e μ = .nx e' μ' ∧ I ts.length e' μ' :=
 forL_inv (P:=fun r => ∃ e' μ',r = .nx e' μ' ∧ I ts.length e' μ') I hs (fun i t e μ ht hI => by
  obtain ⟨e1,e2,μ2,h1,h2,h3⟩:=step i t e μ ht hI
  exact ⟨e1,h1,by rw [h2]; exact h3⟩) (fun e μ hI => ⟨e,μ,rfl,hI⟩) h
theorem compL_ints {same:Store → Prop} {b:BD} {c d:D} {e:Slots} {μ:Store} (p:Int → Bool) (g:Int → T) (hs:same μ) (ns:List Int)
  (h:∀ n ∈ ns,∃ e1,b (.int n) e = some e1 ∧ c e1 μ = .ok (.val (.bl (p n))) μ ∧ (p n = true → d e1 μ = .ok (.val (g n)) μ)):compL same b c d e (ns.map T.int) μ = .ok ((ns.filter p).map g) μ:=by
 induction ns with
 | nil => unfold compL; rw [List.map_nil]; simp only; rw [if_pos hs]; rfl
 | cons n ns ih =>
  obtain ⟨e1,h1,h2,h3⟩:=h n List.mem_cons_self
  have ih:=ih fun u hu => h u (List.mem_cons_of_mem _ hu)
  rw [List.map_cons]
  unfold compL
  rw [if_pos hs]
  simp only [h1,h2,R.calm_ok,R.bind_ok,asB_bl,R.lift_some]
  cases q:p n with
  | true => rw [if_pos rfl,h3 q]; simp [q,ih]
  | false => rw [if_neg Bool.false_ne_true,ih]; simp [q]
theorem compL_all {same:Store → Prop} {b:BD} {d:D} {e:Slots} {μ:Store} (g:Int → T) (hs:same μ) (ns:List Int)
  (h:∀ n ∈ ns,∃ e1,b (.int n) e = some e1 ∧ d e1 μ = .ok (.val (g n)) μ):compL same b (dC (.bl true)) d e (ns.map T.int) μ = .ok (ns.map g) μ:=by
 have:=compL_ints (same:=same) (b:=b) (c:=dC (.bl true)) (d:=d) (e:=e) (μ:=μ) (fun _ => true) g hs ns fun n hn => by
  obtain ⟨e1,h1,h2⟩:=h n hn
  exact ⟨e1,h1,rfl,fun _ => h2⟩
 rw [this]
 congr 2
 exact List.filter_eq_self.mpr fun _ _ => rfl
theorem compL_of {α:Type} {same:Store → Prop} {b:BD} {c d:D} {e:Slots} {μ:Store} (f:α → T) (p:α → Bool) (g:α → T) (hs:same μ) (as:List α)
  (h:∀ a ∈ as,∃ e1,b (f a) e = some e1 ∧ c e1 μ = .ok (.val (.bl (p a))) μ ∧ (p a = true → d e1 μ = .ok (.val (g a)) μ)):compL same b c d e (as.map f) μ = .ok ((as.filter p).map g) μ:=by
 induction as with
 | nil => unfold compL; rw [List.map_nil]; simp only; rw [if_pos hs]; rfl
 | cons n ns ih =>
  obtain ⟨e1,h1,h2,h3⟩:=h n List.mem_cons_self
  have ih:=ih fun u hu => h u (List.mem_cons_of_mem _ hu)
  rw [List.map_cons]
  unfold compL
  rw [if_pos hs]
  simp only [h1,h2,R.calm_ok,R.bind_ok,asB_bl,R.lift_some]
  cases q:p n with
  | true => rw [if_pos rfl,h3 q]; simp [q,ih]
  | false => rw [if_neg Bool.false_ne_true,ih]; simp [q]
theorem compL_ofA {α:Type} {same:Store → Prop} {b:BD} {d:D} {e:Slots} {μ:Store} (f:α → T) (g:α → T) (hs:same μ) (as:List α)
  (h:∀ a ∈ as,∃ e1,b (f a) e = some e1 ∧ d e1 μ = .ok (.val (g a)) μ):compL same b (dC (.bl true)) d e (as.map f) μ = .ok (as.map g) μ:=by
 have:=compL_of (same:=same) (b:=b) (c:=dC (.bl true)) (d:=d) (e:=e) (μ:=μ) f (fun _ => true) g hs as fun n hn => by
  obtain ⟨e1,h1,h2⟩:=h n hn
  exact ⟨e1,h1,rfl,fun _ => h2⟩
 rw [this]
 congr 2
 exact List.filter_eq_self.mpr fun _ _ => rfl
theorem whileN_more {c:D} {body:DS}:∀ (n m:Nat) (e:Slots) (μ:Store),n ≤ m → whileN c body n e μ ≠ .bad → whileN c body m e μ = whileN c body n e μ
 | 0,m,e,μ,_,h => absurd rfl h
 | n + 1,0,e,μ,h,_ => absurd h (by lia)
 | n + 1,m + 1,e,μ,hnm,h => by
  unfold whileN at h ⊢
  cases q:c e μ with
  | err x μ1 => simp only [R.toS_err]
  | bad => rw [q] at h; exact absurd rfl h
  | ok x μ1 =>
   rw [q] at h
   simp only [R.toS_ok] at h ⊢
   cases q2:asB x with
   | none => rw [q2] at h; exact absurd rfl h
   | some k =>
    rw [q2] at h
    simp only [R.lift_some,R.toS_ok] at h ⊢
    cases k with
    | false => rfl
    | true =>
     rw [if_pos rfl] at h ⊢
     rw [if_pos rfl]
     cases q3:body e μ1 with
     | nx e2 μ2 => rw [q3] at h; simp only at h ⊢; exact whileN_more n m e2 μ2 (by lia) h
     | ct e2 μ2 => rw [q3] at h; simp only at h ⊢; exact whileN_more n m e2 μ2 (by lia) h
     | bk e2 μ2 => rfl
     | rt x μ2 => rfl
     | err x e2 μ2 => rfl
     | bad => rfl
theorem sWhile_eq {c:D} {body:DS} {n:Nat} {e:Slots} {μ:Store} (h:whileN c body n e μ ≠ .bad):sWhile c body e μ = whileN c body n e μ:=by
 have hn:∃ n,whileN c body n e μ ≠ .bad:=⟨n,h⟩
 unfold sWhile
 rw [dif_pos hn]
 have h2:=hn.choose_spec
 rcases Nat.le_total n hn.choose with z | z
 ·exact whileN_more _ _ _ _ z h
 ·exact (whileN_more _ _ _ _ z h2).symm
theorem sWhile_inv {c:D} {body:DS} (P:RS → Prop) (hP:¬ P .bad) (I:Nat → Slots → Store → Prop)
  (step:∀ m e μ,I m e μ → ∃ k μ1,c e μ = .ok (.val (.bl k)) μ1 ∧ if k = true then (body e μ1).goes (fun e2 μ2 => ∃ m',m' < m ∧ I m' e2 μ2) P else P (.nx e μ1)) :
  ∀ (m:Nat) (e:Slots) (μ:Store),I m e μ → P (sWhile c body e μ):=by
 have key:∀ (m:Nat) (e:Slots) (μ:Store),I m e μ → ∃ n,P (whileN c body n e μ):=by
  intro m
  induction m using Nat.strongRecOn with
  | ind m ih =>
   intro e μ hI
   obtain ⟨k,μ1,h1,h2⟩:=step m e μ hI
   cases k with
   | false =>
    refine ⟨1,?_⟩
    unfold whileN
    simp only [h1,R.toS_ok,asB_bl,R.lift_some,Bool.false_eq_true,if_false]
    exact h2
   | true =>
    rw [if_pos rfl] at h2
    cases q:body e μ1 with
    | nx e2 μ2 =>
     rw [q] at h2
     obtain ⟨m',hm,hI'⟩:=h2
     obtain ⟨n,hn⟩:=ih m' hm e2 μ2 hI'
     refine ⟨n + 1,?_⟩
     unfold whileN
     simp only [h1,R.toS_ok,asB_bl,R.lift_some,if_true,q]
     exact hn
    | ct e2 μ2 =>
     rw [q] at h2
     obtain ⟨m',hm,hI'⟩:=h2
     obtain ⟨n,hn⟩:=ih m' hm e2 μ2 hI'
     refine ⟨n + 1,?_⟩
     unfold whileN
     simp only [h1,R.toS_ok,asB_bl,R.lift_some,if_true,q]
     exact hn
    | bk e2 μ2 =>
     rw [q] at h2
     refine ⟨1,?_⟩
     unfold whileN
     simp only [h1,R.toS_ok,asB_bl,R.lift_some,if_true,q]
     exact h2
    | rt x μ2 =>
     rw [q] at h2
     refine ⟨1,?_⟩
     unfold whileN
     simp only [h1,R.toS_ok,asB_bl,R.lift_some,if_true,q]
     exact h2
    | err x e2 μ2 =>
     rw [q] at h2
     refine ⟨1,?_⟩
     unfold whileN
     simp only [h1,R.toS_ok,asB_bl,R.lift_some,if_true,q]
     exact h2
    | bad => rw [q] at h2; exact absurd h2 hP
 intro m e μ hI
 obtain ⟨n,hn⟩:=key m e μ hI
 rw [sWhile_eq (n:=n) (fun z => hP (z ▸ hn))]
 exact hn
end Fw
namespace Fw
open PySem
noncomputable def asKey:T → Option Key
 | .int i => some (.inl i)
 | .str x => some (.inr x)
 | _ => none
noncomputable def putT (kts:List (Key × T)) (k:Key) (t:T):List (Key × T) :=
 if (kts.any fun kv => decide (kv.1 = k)) = true then kts.map (fun kv => if kv.1 = k then (kv.1,t) else kv) else kts ++ [(k,t)]
noncomputable def putAtD (x:SV) (k:T) (t:T) (μ:Store):Option Store:=match x with
 | .cel c => match μ[c]? with
  | some (true,.dct kts) => (asKey k).bind fun kk => if kts.length < szL then some (μ.set c (true,.dct (putT kts kk t))) else none
  | _ => none
 | _ => none
noncomputable def sPutD (i:Nat) (dk dv:D):DS:=fun e μ => (dv e μ).toS e fun y μ1 => (R.lift (slot e i) μ1).toS e fun x μ1 => (dk e μ1).toS e fun z μ2 => (R.lift (rd μ2 z) μ2).toS e fun k μ2 =>
 (frz y μ2).toS e fun t μ3 => (R.lift (putAtD x k t μ3) μ3).toS e fun μ4 _ => .nx e μ4
@[simp] theorem sPutD_is (i:Nat) (dk dv:D) (e:Slots) (μ:Store):sPutD i dk dv e μ = (dv e μ).toS e fun y μ1 => (R.lift (slot e i) μ1).toS e fun x μ1 => (dk e μ1).toS e fun z μ2 => (R.lift (rd μ2 z) μ2).toS e fun k μ2 =>
 (frz y μ2).toS e fun t μ3 => (R.lift (putAtD x k t μ3) μ3).toS e fun μ4 _ => .nx e μ4:=(rfl)
noncomputable def itemsT (kts:List (Key × T)):List T:=kts.map fun p => .tup [keyT p.1,p.2]
noncomputable def asD:T → Option (List (Key × T))
 | .dct kts => some kts
 | _ => none
noncomputable def iItems (d:D):DI:=fun e μ => (d e μ).bind fun x μ1 => (R.lift ((rd μ1 x).bind asD) μ1).bind fun kts μ1 => .ok ⟨itemsT kts,fun μ' => rd μ' x = rd μ1 x⟩ μ1
@[simp] theorem iItems_is (d:D) (e:Slots) (μ:Store):iItems d e μ = (d e μ).bind fun x μ1 => (R.lift ((rd μ1 x).bind asD) μ1).bind fun kts μ1 => .ok ⟨itemsT kts,fun μ' => rd μ' x = rd μ1 x⟩ μ1:=(rfl)
end Fw
namespace Fw
open PySem
noncomputable def enumT (i:Int):List T → List T
 | [] => []
 | t :: ts => .tup [.int i,t] :: enumT (i + 1) ts
noncomputable def iEnum (d:D):DI:=fun e μ => (d e μ).bind fun x μ1 => (R.lift ((rd μ1 x).bind seqItems) μ1).bind fun ts μ1 => .ok ⟨enumT 0 ts,fun μ' => rd μ' x = rd μ1 x⟩ μ1
@[simp] theorem iEnum_is (d:D) (e:Slots) (μ:Store):iEnum d e μ = (d e μ).bind fun x μ1 => (R.lift ((rd μ1 x).bind seqItems) μ1).bind fun ts μ1 => .ok ⟨enumT 0 ts,fun μ' => rd μ' x = rd μ1 x⟩ μ1:=(rfl)
noncomputable def inT (t:T) (us:List T):Bool:=us.any fun y => eqT y t
noncomputable def fBand:T → T → Option T
 | .int i,.int j => if 0 ≤ i ∧ j = 1 then some (.int (i % 2)) else none
 | _,_ => none
@[simp] theorem fBand_one (i:Int) (h:0 ≤ i):fBand (.int i) (.int 1) = some (.int (i % 2)):=if_pos ⟨h,rfl⟩
noncomputable def fInt:T → Option T
 | .int i => some (.int i)
 | .bl b => some (.int (if b then 1 else 0))
 | _ => none
@[simp] theorem fInt_int (i:Int):fInt (.int i) = some (.int i):=(rfl)
@[simp] theorem fInt_bl (b:Bool):fInt (.bl b) = some (.int (if b then 1 else 0)):=(rfl)
noncomputable def asV:SV → Option T
 | .val t => some t
 | _ => none
@[simp] theorem asV_val (t:T):asV (.val t) = some t:=(rfl)
noncomputable def sUnp (is:List Nat) (d:D):DS:=fun e μ => (d e μ).toS e fun x μ1 => (R.lift ((asV x).bind fun t => bTup is t e) μ1).toS e fun e' μ1 => .nx e' μ1
@[simp] theorem sUnp_is (is:List Nat) (d:D) (e:Slots) (μ:Store):sUnp is d e μ = (d e μ).toS e fun x μ1 => (R.lift ((asV x).bind fun t => bTup is t e) μ1).toS e fun e' μ1 => .nx e' μ1:=(rfl)
@[simp] theorem bTup_tri (i j k:Nat) (t u v:T) (e:Slots):bTup [i,j,k] (.tup [t,u,v]) e = some (((e.set i (some (.val t))).set j (some (.val u))).set k (some (.val v))):=(rfl)
noncomputable def clearAt (x:SV) (μ:Store):Option Store:=match x with
 | .cel k => match μ[k]? with
  | some (true,.lst _) => some (μ.set k (true,.lst []))
  | _ => none
 | _ => none
noncomputable def sClear (o:D):DS:=fun e μ => (o e μ).toS e fun x μ0 => (R.lift (clearAt x μ0) μ0).toS e fun μ1 _ => .nx e μ1
@[simp] theorem sClear_is (o:D) (e:Slots) (μ:Store):sClear o e μ = (o e μ).toS e fun x μ0 => (R.lift (clearAt x μ0) μ0).toS e fun μ1 _ => .nx e μ1:=(rfl)
noncomputable def fRev:T → Option T
 | .lst ts => some (.lst ts.reverse)
 | _ => none
@[simp] theorem fRev_lst (ts:List T):fRev (.lst ts) = some (.lst ts.reverse):=(rfl)
end Fw
namespace Fw
open PySem
end Fw
namespace Fw
open PySem
end Fw
namespace Fw
open PySem
noncomputable def fStr:T → Option T
 | .int i => if i.natAbs.log2 < 1920 then some (.str (toString i)) else none
 | _ => none
theorem fStr_int (i:Int) (h:i.natAbs.log2 < 1920):fStr (.int i) = some (.str (toString i)):=if_pos h
theorem us_cons {us:List Value} {n:Nat} (h:us.length = n + 1):∃ a as,us = a :: as:=by
 cases us with
 | nil => cases h
 | cons a as => exact ⟨a,as,rfl⟩
end Fw
namespace Fw
open PySem
noncomputable def plain:List (Sum T Nat) → Option (List T)
 | [] => some []
 | .inl t :: xs => (plain xs).map fun ts => t :: ts
 | .inr _ :: _ => none
end Fw
namespace Fw
open PySem
end Fw
namespace Fw
open PySem
noncomputable def sRaise (n:Str):DS:=fun e μ => .err (.exc n none) e μ
noncomputable def sTry (b:DS) (h:Str → DS):DS:=fun e μ => match b e μ with
 | .err (.exc n none) e' μ' => h n e' μ'
 | .err _ _ _ => .bad
 | r => r
noncomputable def sCalm (d:DS):DS:=fun e μ => match d e μ with
 | .err _ _ _ => .bad
 | r => r
noncomputable def sLess (i:Nat) (r:RS):RS:=match r with
 | .nx e μ => .nx (e.set i none) μ
 | .bk e μ => .bk (e.set i none) μ
 | .ct e μ => .ct (e.set i none) μ
 | r => r
noncomputable def sAs (i:Nat) (n:Str) (d:DS):DS:=fun e μ => sLess i (sCalm d (e.set i (some (.val (.exc n none)))) μ)
noncomputable def dIsG (f:Str → Option Bool) (da:D):D:=fun e μ => (da e μ).bind fun x μ1 => match x with
 | .val (.exc n none) => (match f n with
  | some b => .ok (.val (.bl b)) μ1
  | none => .bad)
 | _ => .bad
noncomputable def asLst:T → Option (List T)
 | .lst ts => some ts
 | _ => none
noncomputable def fNinA (t u:T):Option T:=match u with
 | .lst us => if okT 100 t = true ∧ okT 100 (.lst us) = true then some (.bl (!inT t us)) else none
 | _ => none
theorem fNinA_ok {t:T} {us:List T} (h1:okT 100 t = true) (h2:okT 100 (.lst us) = true):fNinA t (.lst us) = some (.bl (!inT t us)):=if_pos ⟨h1,h2⟩
end Fw
namespace Fw
open PySem L2 PyProof.Rows
theorem cs_raise {X:Cx} {x:Str} {C:Addr} {bmB:List Value} {B newId initId:String} {np cpos pos p2:Pos} {m:Str} {j:Nat} (F:ExcBaseFacts B newId initId bmB) (hc:X.calm = true) (hm:X.mg x = some (.ref C)) (q:PySem.W.excIn X.K C bmB newId = true) (hg:Gl X x:=by rfl)
  (hpl:(backTo cpos (starEach [.Constant (.str m) j p2] X.env)).any (·.1) = false:=by rfl) (hs:starEach [.Constant (.str m) j p2] X.env = (false,eval (.Constant (.str m) j p2) X.env) :: starEach [] X.env:=by rfl) (hd:(x == ("__debug__":Str)) = false:=by decide) :
  CS X (.Raise (some (.Call (.Name x np) [.Constant (.str m) j p2] [] cpos)) none pos) (sRaise x) :=
 PS.imp (ps_raise F hc hg hm q hpl hs hd) fun D σ H ⟨F,α,e,μ,S,h⟩ => fun pins s h' e' vs I hx =>
  h _ _ ⟨pins,σ,H,F,α,Ex.refl,S,x,C,rfl,hm,.inl ⟨hc,s,h',e',vs,I,hx,rfl,rfl⟩⟩
noncomputable def spX (K:PySem.W.Frag) (mg:Str → Option Value) (fn:FN) (n:Nat):Sp:=fun vs H Q E => vs.length = n ∧ ∃ F α μ xs,StOk K F α μ H ∧ Paired (fun v x => SvOk K F α v x) vs xs ∧
 (fn xs μ).wp (fun r μ' => ∀ v H' F' α',Ex F α H F' α' H' → StOk K F' α' μ' H' → SvOk K F' α' v r → Q v H')
  (fun c μ' => ∀ n C,c = .exc n none → mg n = some (.ref C) → ∀ H' F' α',Ex F α H F' α' H' → StOk K F' α' μ' H' → E (.ref C) none H')
section
variable {P:Program} {w:World} {K:PySem.W.Frag} {mg:Str → Option Value} {base:Heap}
theorem fn_okX {x qual:Str} {st:Stmt} {f:Addr} {fd:FuncData} {N ps:List Str} {k:Nat} {d:DS} (F:Fun K x qual st f fd) (S:FnScope N ps (defScope st))
  (hb:∀ (cdv:Value) (A:Around) (outer:List Env) (s:Shared) (H:Hp) (E:XK),Room k (A.deeper (envOfC qual (defScope st) s.heap.objs.size f cdv)) → CSs (cxOf (CX1 P w) P w K mg base N qual (defScope st) f cdv A outer s H E) (defBody st) d) :
  FnOk P w K mg base (CX1 P w) (k + 1) f fd ps (spX K mg (fnV N.length d) ps.length):=by
 obtain ⟨oc,od,kV,doc,pm,an,cdv,ct,osl,rfl,lk,hcd⟩:=F.ex
 refine fn_of lk hcd S (fun vs H Q E h => h.1) fun A outer s H vs Q E hr h => ⟨_,hb cdv A outer s H E hr,?_⟩
 obtain ⟨hl,F0,α,μ,xs,S0,o,h⟩:=h
 refine ⟨F0,α,_,μ,sim_start S0 o,?_⟩
 rw [fnV_is] at h
 have fin:∀ {y r:SV} {μ1 μ':Store} {v:V} {H1 F1:Hp} {α1:List Addr},ice μ.length y μ1 = .ok r μ' → Ex F0 α H F1 α1 H1 → StOk K F1 α1 μ1 H1 → SvOk K F1 α1 v y → ∃ F2,Ex F0 α H F2 α H1 ∧ StOk K F2 α μ' H1 ∧ SvOk K F2 α v r:=fun {y r μ1 μ' v H1 F1 α1} hg x1 S1 o1 => by
  obtain ⟨F2,g1,g2,g3,g4⟩:=ice_ok S0.len x1.pre S1 o1 hg
  exact ⟨F2,⟨x1.same.trans g1,List.prefix_refl _,fun b z h1 h2 h3 => let ⟨a1,a2,a3⟩:=x1.fr b z h1 h2 h3; ⟨a1,by rw [g2 b a3]; exact a2,h3⟩⟩,g3,g4⟩
 cases q:d (starts N.length xs) μ with
 | rt y μ1 =>
  intro v H1 F1 α1 x1 S1 o1
  rw [q,endV_rt] at h
  cases hi:ice μ.length y μ1 with
  | ok r μ' =>
   rw [hi] at h
   obtain ⟨F2,a1,a2,a3⟩:=fin hi x1 S1 o1
   exact h v H1 F2 α a1 a2 a3
  | err c μ' =>
   unfold ice at hi
   cases hz:frz y μ1 with
   | ok t μ2 => rw [hz] at hi; cases hi
   | err c2 μ2 => exact absurd hz (frz_no y μ1 c2 μ2)
   | bad => rw [hz] at hi; cases hi
  | bad => rw [hi] at h; exact h.elim
 | nx e1 μ1 =>
  intro σ1 H1 F1 α1 x1 S1
  rw [q] at h
  obtain ⟨F2,a1,a2,a3⟩:=fin (y:=.val .non) (r:=.val .non) (μ':=μ1.take μ.length) rfl x1 S1.st (Rep.non' (K:=K) (F:=F1))
  exact h .non H1 F2 α a1 a2 a3
 | bk e1 μ1 => rw [q] at h; exact h.elim
 | ct e1 μ1 => rw [q] at h; exact h.elim
 | bad => rw [q] at h; exact h.elim
 | err c e1 μ1 =>
  rw [q] at h
  rintro ev s' ⟨pins,σ',H',F',α',x1,S1,n,C,rfl,hm,hfly⟩
  obtain ⟨F2,a1,a2,a3⟩:=fin (y:=.val .non) (r:=.val .non) (μ':=μ1.take μ.length) rfl x1 S1.st (Rep.non' (K:=K) (F:=F'))
  have hE:E (.ref C) none H':=h n C rfl hm H' F2 α a1 a2
  rcases hfly with ⟨_,s2,h',e,vs',I,hx,rfl,rfl⟩ | ⟨H0,s2,I,hx⟩ | ⟨_,e2,t2,B2,rfl,c2⟩
  ·exact raise_xe I hx hE
  ·exact pass_xe I hx fun cv H'' hX11_ => by obtain ⟨z1,z2⟩:=hX11_; subst z1 z2; exact hE
  ·exact hel_xe c2 hE
end
section
variable {X:Cx} {f:Addr} {fd:FuncData} {ps:List Str} {x:Str} {p pos:Pos} {e:Expr} {es:List Expr} {ds:List D} {fn:FN} {k:Nat}
theorem ce_callX (G:FnOk X.prog X.w X.K X.mg X.base (CX1 X.prog X.w) k f fd ps (spX X.K X.mg fn ps.length)) (hr:Room k X.A) (hm:X.mg x = some (.ref f)) (hk:PySem.W.keepIn X.K (.ref f) = true) (hb:Binds X.K fd ps []) (ha:CA X (e :: es) ds)
  (hl:ds.length = ps.length:=by rfl) (hg:Gl X x:=by rfl) (hdb:(x == ("__debug__":Str)) = false:=by decide) (he:starEach (e :: es) X.env = (false,eval e X.env) :: starEach es X.env:=by rfl) (hpl:(backTo pos (starEach es X.env)).any (·.1) = false:=by rfl) :
  CE X (.Call (.Name x p) (e :: es) [] pos) (dCall fn ds):=by
 intro pins s σ H Q I ⟨F,α,e0,μ,S,h⟩
 refine wpAny_Call_Name_kw (ld_glob I hg hm ?_ hdb)
 have hA:tDA X ds σ H (fun vs H1 => ∃ F1 α1 μ1 xs,Ex F α H F1 α1 H1 ∧ Sim X.K F1 α1 e0 μ1 σ H1 ∧ Paired (fun v x => SvOk X.K F1 α1 v x) vs xs ∧ xs.length = ds.length ∧ (fn xs μ1).wp (Post X.K F α H e0 σ Q) (XPost X F α H e0)) :=
  ⟨F,α,e0,μ,S,(dArgs_wp_len (R.wp_bind h)).mono (fun xs μ1 ⟨hn,h⟩ vs H1 F1 α1 x1 S1 o1 => ⟨F1,α1,μ1,xs,x1,S1,o1,hn,h⟩) fun _ _ h => h⟩
 refine PySem.W.callWith_K (h₀:=X.base) I.ok.mod.kin hk (thn (ha pos pins s σ H _ I hA) fun us s1 ⟨vs,H1,I1,r,F1,α1,μ1,xs,x1,S1,o1,hn,hw⟩ => ⟨I1.kIn,?_⟩) he hpl
 have hlen:us.length = ps.length:=by rw [← r.length,o1.length,hn,hl]
 let E:XK:=fun cv _ H' => ∃ n C F' α' μ2,cv = .ref C ∧ X.mg n = some (.ref C) ∧ fn xs μ1 = .err (.exc n none) μ2 ∧ Ex F1 α1 H1 F' α' H' ∧ StOk X.K F' α' μ2 H'
 have hsp:spX X.K X.mg fn ps.length vs H1 Q E:=by
  refine ⟨by rw [r.length,hlen],F1,α1,μ1,xs,S1.st,o1,?_⟩
  cases q:fn xs μ1 with
  | ok rr μ2 => rw [q] at hw; exact fun v H2 F2 α2 x2 S2 o2 => hw v H2 F2 α2 (x1.trans x2) (S1.of x2.same x2.pre S2) o2
  | err c μ2 => exact fun n C hc hmn H2 F2 α2 x2 S2 => ⟨n,C,F2,α2,μ2,rfl,hmn,by rw [q,hc],x2,S2⟩
  | bad => rw [q] at hw; exact hw.elim
 have hbn:=hb s1 us I1.kIn (by rw [List.append_nil]; exact hlen)
 rw [List.append_nil] at hbn
 refine wpAny_call (codeAny_mono (G.run X.A X.stack s1 H1 ⟨us,[]⟩ us vs Q E hr I1.env0 hbn r hsp) fun rr s' hq => ?_)
 cases rr with
 | error ev =>
  obtain ⟨e',t,C,H',B,hev,hos,hbare,U,hok,⟨n,C',F2,α2,μ2,hc,hmn,hfn,x2,S2⟩,fl,cov,covT⟩:=(show CX1 X.prog X.w X.stack H1 s1 E ev s' from hq)
  cases hc
  rw [hfn] at hw
  exact hw ev s' ⟨pins,σ,H',F2,α2,x1.trans x2,S1.of x2.same x2.pre S2,n,C,rfl,hmn,.inr (.inl ⟨H1,s1,I1,e',t,C,H',B,hev,hos,hbare,U,hok,⟨rfl,rfl⟩,fl,cov,covT⟩)⟩
 | ok fl =>
  cases fl with
  | ret u => exact I1.after hq
  | next => exact False.elim hq
  | brk => exact False.elim hq
  | cont => exact False.elim hq
end
end Fw
namespace Fw
open PySem L2 PyProof.Rows
noncomputable abbrev tried (X:Cx) (E:Value → Shared → Prop) (pn:List (Addr × Obj)):Cx:={ X with xe:=E,pn:=pn,calm:=false }
section
variable {X:Cx} {pins:List (Addr × Obj)} {σ:L2.St} {H:Hp} {s:Shared}
theorem inv_tried (I:Inv X pins σ H s) (E:Value → Shared → Prop):Inv (tried X E (X.pn ++ pins)) [] σ H s :=
 ⟨⟨I.ok.mod,I.ok.kind,I.ok.glob,I.ok.blt,I.ok.above,I.ok.inj,I.ok.has,I.ok.cab,(fun h => by cases h),I.ok.frames,I.ok.stk,I.ok.exf,I.ok.bs,I.ok.bsz,I.ok.noex,I.ok.exfs,I.ok.funs,I.ok.frf⟩,I.os,I.bare,I.base,I.loc,I.cell,I.free,I.freeC,
  fun p hp => I.pin p (by simpa using hp),I.hok,I.len⟩
theorem inv_untried {E:Value → Shared → Prop} {pins':List (Addr × Obj)} (ok:X.Ok) (I:Inv (tried X E (X.pn ++ pins)) pins' σ H s):Inv X pins σ H s :=
 ⟨ok,I.os,I.bare,I.base,I.loc,I.cell,I.free,I.freeC,fun p hp => I.pin p (List.mem_append_left _ hp),I.hok,I.len⟩
theorem sp_untried {E:Value → Shared → Prop} {D:Ends} {f:Flow} (ok:X.Ok) (h:SP (tried X E (X.pn ++ pins)) [] D f s):SP X pins D f s:=by
 cases f with
 | next => obtain ⟨σ',H',I,q⟩:=h; exact ⟨σ',H',inv_untried ok I,q⟩
 | brk => obtain ⟨σ',H',I,q⟩:=h; exact ⟨σ',H',inv_untried ok I,q⟩
 | cont => obtain ⟨σ',H',I,q⟩:=h; exact ⟨σ',H',inv_untried ok I,q⟩
 | ret u => obtain ⟨v,σ',H',I,r,q⟩:=h; exact ⟨v,σ',H',inv_untried ok I,r,q⟩
end
noncomputable def CH (X:Cx) (hs:List ExceptHandler) (d:Str → DS):Prop:=∀ (pins:List (Addr × Obj)) (σ:L2.St) (H:Hp) (e t C:Addr) (B:Heap) (s:Shared) (n:Str) (D:Ends) (F:Hp) (α:List Addr) (e':Slots) (μ':Store),
 Cau X pins σ H e t C B s → X.mg n = some (.ref C) → Sim X.K F α e' μ' σ H → PostS X F α H D (d n e' μ') → wpAny (model X.prog X.w) X.A (handleBy (.ref e) X.env hs) (SP X pins D) X.xe s
theorem cs_try {X:Cx} {body:List Stmt} {h₀:ExceptHandler} {hs:List ExceptHandler} {pos:Pos} {db:DS} {dh:Str → DS} (hst:X.stack = X.env :: X.outer) (hf:X.env.frame = some X.env.locals) (hb:∀ E pn,CSs (tried X E pn) body db) (hh:CH X (h₀ :: hs) dh) :
  CS X (.Try body (h₀ :: hs) [] [] pos) (sTry db dh):=by
 intro pins s σ H D I ⟨F,α,e,μ,S,h⟩
 have ok:=I.ok
 refine wpAny_Try_except ?_
 refine wpAny_mono (hb _ (X.pn ++ pins) [] s σ H D (inv_tried I _) ⟨F,α,e,μ,S,?_⟩) (fun f s₁ q => ?_) (fun _ _ z => z)
 ·unfold sTry at h
  cases q:db e μ with
  | nx e1 μ1 => rw [q] at h; exact h
  | rt y μ1 => rw [q] at h; exact h
  | bk e1 μ1 => rw [q] at h; exact h
  | ct e1 μ1 => rw [q] at h; exact h
  | bad => rw [q] at h; exact h
  | err c e1 μ1 =>
   rw [q] at h
   rintro ev s' ⟨pins',σ',H',F',α',x1,S1,n,C,rfl,hm,hfly⟩
   rcases hfly with ⟨hcalm,_⟩ | ⟨H0,s2,I2,hx⟩ | ⟨hcalm,_⟩
   ·cases hcalm
   ·have I3:Inv X pins σ' H0 s2:=inv_untried ok I2
    refine cau hst hf I3 hx fun e2 t2 C2 H2 B h5 hev hE2 cc => ?_
    subst hev
    obtain ⟨hc1,hc2⟩:=hE2
    cases hc1
    subst hc2
    exact hh pins σ' _ e2 t2 C B _ n D F' α' e1 μ1 cc hm S1 (PostS.mono x1 h)
   ·cases hcalm
 ·have q:=sp_untried ok q
  cases f with
  | next => exact wpAny_execs_nil q
  | brk => exact q
  | cont => exact q
  | ret u => exact q
end Fw
namespace L2
open PySem PySem.Spec PyProof.Rows
end L2
namespace Fw
open PySem L2 PyProof.Rows
noncomputable def mroK (K:PySem.W.Frag) (C:Addr):List Value:=match K.lookup C with
 | some ⟨_,_,.cls cd,_⟩ => cd.mro
 | _ => []
structure ExcK (K:PySem.W.Frag) (C:Addr):Prop where
 ex:∃ bmB newId,PySem.W.excIn K C bmB newId = true ∧ bmB.contains (.type "BaseException") = true
theorem ExcK.own {K:PySem.W.Frag} {C:Addr} {h:Heap} (o:ExcK K C) (X:K.In h):∃ bm,OwnAt h C bm ∧ mroK K C = .ref C :: bm:=by
 obtain ⟨bmB,newId,q,hb⟩:=o.ex
 obtain ⟨bm,N,nm,qn,bs,hdct,sn,sub,ab,col,dd,k0,k1,k2,k3,k5,mN,hC,hN,hni,T⟩:=(own_in (mg:=fun _ => some (.ref C)) (x:="") X rfl q).obj
 refine ⟨bm,⟨nm,qn,N,bs,hdct,sn,sub,ab,col,dd,k0,k1,k2,k3,k5,newId,hC,T.hasType hb⟩,?_⟩
 unfold mroK
 unfold PySem.W.excIn at q
 cases hl:K.lookup C with
 | none => rw [hl] at q; cases q
 | some o =>
  have:=X _ _ hl
  rw [hC] at this
  cases this
  rfl
noncomputable def CH1 (X:Cx) (hs:List ExceptHandler) (n:Str) (d:DS):Prop:=∀ (pins:List (Addr × Obj)) (σ:L2.St) (H:Hp) (e t C:Addr) (B:Heap) (s:Shared) (D:Ends) (F:Hp) (α:List Addr) (e':Slots) (μ':Store),
 Cau X pins σ H e t C B s → X.mg n = some (.ref C) → Sim X.K F α e' μ' σ H → PostS X F α H D (d e' μ') → wpAny (model X.prog X.w) X.A (handleBy (.ref e) X.env hs) (SP X pins D) X.xe s
theorem CH.of {X:Cx} {hs:List ExceptHandler} {d:Str → DS} (h:∀ n,CH1 X hs n (d n)):CH X hs d:=fun pins σ H e t C B s n D F α e' μ' c hm S p => h n pins σ H e t C B s D F α e' μ' c hm S p
theorem ch1_bad {X:Cx} {hs:List ExceptHandler} {n:Str}:CH1 X hs n sBad:=fun pins σ H e t C B s D F α e' μ' c hm S p => False.elim p
theorem post_mark {X:Cx} {ev:Value} {F H:Hp} {α:List Addr} {D:Ends} {d:DS} {e:Slots} {μ:Store} (h:PostS X F α H D (sCalm d e μ)):PostS (X.mark ev) F α H D (d e μ):=by
 unfold sCalm at h
 cases q:d e μ with
 | err c e1 μ1 => rw [q] at h; exact False.elim h
 | nx e1 μ1 => rw [q] at h; exact h
 | rt y μ1 => rw [q] at h; exact h
 | bk e1 μ1 => rw [q] at h; exact h
 | ct e1 μ1 => rw [q] at h; exact h
 | bad => rw [q] at h; exact h
section
variable {X:Cx} {n x:Str} {C D:Addr} {np pos tp:Pos} {name:Option Str} {body tl:List Stmt} {b₀:Stmt} {rest:List ExceptHandler} {d:DS}
theorem in_of {pins:List (Addr × Obj)} {σ:L2.St} {H:Hp} {s:Shared} (I:Inv X pins σ H s):X.K.In s.heap:=by
 have e0:=I.env0
 exact e0.mod.kin.keeps fun b o e => (e0.bs b o e).1
theorem ch_take (hn:X.mg n = some (.ref C)) (hC:ExcK X.K C) (hm:X.mg x = some (.ref D)) (hD:ExcK X.K D) (hsub:(mroK X.K C).contains (.ref D) = true) (hp:∀ ev,CSs (X.mark ev) (b₀ :: tl) d) (hg:Gl X x:=by rfl) (hd:(x == ("__debug__":Str)) = false:=by decide) :
  CH1 X (.ExceptHandler (some (.Name x np)) none (b₀ :: tl) pos :: rest) n (sCalm d):=by
 intro pins σ H e t C' B s D' F α e' μ' c hm' S p
 rw [hn] at hm'
 cases hm'
 have KX:=in_of c.inv
 obtain ⟨bm,oC,eC⟩:=hC.own KX
 obtain ⟨bm',oD,_⟩:=hD.own KX
 refine hand_name c oC ⟨bm',oD⟩ hg hm ?_ hd
 rw [eC] at hsub
 rw [if_pos hsub]
 exact suite_none (ts:=tDS X (sCalm d)) c (fun ev => PSs.imp (hp ev) fun D σ H ⟨F,α,e,μ,S,p⟩ => ⟨F,α,e,μ,S,post_mark p⟩) ⟨F,α,e',μ',S,p⟩
theorem slot_less (e:Slots) (i j:Nat):slot (e.set i none) j = if i = j then none else slot e j:=by
 unfold slot
 by_cases hj:i = j
 ·subst hj
  rw [if_pos rfl]
  by_cases hl:i < e.length
  ·rw [List.getElem?_set_self hl]
  ·rw [List.getElem?_eq_none (by rw [List.length_set]; omega)]
 ·rw [if_neg hj,List.getElem?_set_ne hj]
theorem sim_less {K:PySem.W.Frag} {F H:Hp} {α:List Addr} {e:Slots} {μ:Store} {σ:L2.St} (i:Nat) (S:Sim K F α e μ σ H):Sim K F α (e.set i none) μ (σ.set i none) H:=by
 refine ⟨S.st,fun j x h => ?_,by rw [List.length_set,List.length_set]; exact S.len⟩
 rw [slot_less] at h
 by_cases hj:i = j
 ·rw [if_pos hj] at h; cases h
 ·rw [if_neg hj] at h
  obtain ⟨v,h1,h2⟩:=S.sl j x h
  exact ⟨v,by rw [List.getElem?_set_ne hj]; exact h1,h2⟩
theorem ch_as {i:Nat} {m:Str} (hst:X.stack = X.env :: X.outer) (hf:X.env.frame = some X.env.locals) (hex:X.ex = []) (hN:X.N.Nodup) (hi:X.N[i]? = some m) (hk:X.env.scope.names.lookup m = some .local)
  (hn:X.mg n = some (.ref C)) (hns:PySem.W.nsIn X.K mainGlobals n = some (some (.ref C))) (hC:ExcK X.K C) (hm:X.mg x = some (.ref D)) (hD:ExcK X.K D) (hsub:(mroK X.K C).contains (.ref D) = true) (hp:∀ ev,CSs (X.mark ev) (b₀ :: tl) d) (hg:Gl X x:=by rfl) (hd:(x == ("__debug__":Str)) = false:=by decide) :
  CH1 X (.ExceptHandler (some (.Name x np)) (some m) (b₀ :: tl) pos :: rest) n (sAs i n d):=by
 intro pins σ H e t C' B s D' F α e' μ' c hm' S p
 rw [hn] at hm'
 cases hm'
 have KX:=in_of c.inv
 obtain ⟨bm,oC,eC⟩:=hC.own KX
 obtain ⟨bm',oD,_⟩:=hD.own KX
 refine hand_name c oC ⟨bm',oD⟩ hg hm ?_ hd
 rw [eC] at hsub
 rw [if_pos hsub]
 refine suite_as (φ:=ExcAt X.K e n none) (ts:=tDS X (sCalm d)) hst hf hex hN hi hk c (fun h q => ⟨C,hns,q⟩) (fun h1 h2 ⟨C1,q1,o,q2,q3⟩ k => ⟨C1,q1,o,k o q2,q3⟩) (fun ev => PSs.imp (hp ev) fun D σ H ⟨F,α,e,μ,S,p⟩ => ⟨F,α,e,μ,S,post_mark p⟩) ?_
 have hHe:H e = none:=by
  cases q:H e with
  | none => rfl
  | some o =>
   obtain ⟨o',h1⟩:=c.cov e o q
   rw [c.fly.2.1] at h1
   cases h1
 have g:Grow F H (upd F e (.ext (ExcAt X.K e n none))) (upd H e (.ext (ExcAt X.K e n none))):=Grow.new hHe
 refine ⟨_,α,e'.set i (some (.val (.exc n none))),μ',(S.grow g).set (x:=.val (.exc n none)) (v:=.ref e) ?_,?_⟩
 ·exact ⟨e,rfl,upd_same⟩
 ·have p:=PostS.mono (g.ex S.st.ext) p
  unfold sAs at p
  cases q:sCalm d (e'.set i (some (.val (.exc n none)))) μ' with
  | nx e1 μ1 => rw [q] at p; exact fun σ1 H1 F1 α1 x1 S1 => p _ H1 F1 α1 x1 (sim_less i S1)
  | bk e1 μ1 => rw [q] at p; exact fun σ1 H1 F1 α1 x1 S1 => p _ H1 F1 α1 x1 (sim_less i S1)
  | ct e1 μ1 => rw [q] at p; exact fun σ1 H1 F1 α1 x1 S1 => p _ H1 F1 α1 x1 (sim_less i S1)
  | rt y μ1 => rw [q] at p; exact p
  | err c1 e1 μ1 => rw [q] at p; exact p
  | bad => rw [q] at p; exact p
end
end Fw
namespace Fw
open PySem L2 PyProof.Rows
end Fw
namespace L2
open PySem PySem.Spec PySem.Calls PySem.W PyProof.Rows Builtin Builtin.ObjectAttr Builtin.Getset_descriptor
section
variable {prog:Program} {w:World} {A:Around} {E:Value → Shared → Prop} {s:Shared} {K:Frag} {x C:Addr}
theorem excCls_type {M:Model} {h:Heap} (hx:ExcCls x C h):Looks M h (typeOf (.ref x)) (.ref C):=by
 obtain ⟨o,h1,h2⟩:=hx
 exact h2 ▸ (Looks.ld h1).andThen .now
theorem exc_get {R:Result → Shared → Prop} {tp:Value} (X:K.In s.heap) (hx:ExcCls x C s.heap) (hm:mroIn K C (.type "object") = some true) (h:R (.ok (.ret (.ref C))) s) :
  codeAny (model prog w) A (.call (.builtin "getset_descriptor.__get__") ⟨[.builtin "object.__class__",.ref x,tp],[]⟩) R s:=by
 have T:=excCls_type (M:=model prog w) hx
 have O:=looks_mroIn (M:=model prog w) X hm
 obtain ⟨hh,g,dr,t,os⟩:=s
 refine codeAny_call_builtin KF.slot_gs.plain KF.entry_gs (KF.slot_gs.check _ _ _ _ _ _ _ _ KF.type_class (KF.args_gs _ _ _) ?_)
 unfold Builtin.«getset_descriptor.__get__» descrGet
 rw [dga_obj]
 refine wpAny_bind (wpAny_pure ?_)
 unfold descrGetter descrCheckInstance descrNameAndClass isInstance
 simp only [KF.owner_class]
 repeat lk
 refine ⟨Code.quiet_builtin _ (by decide +kernel),codeAny_builtin KF.entry_class ?_⟩
 unfold Builtin.«object.__class__» shownTypeOf
 repeat lk
 exact h
theorem exc_find {M:Model} {h:Heap} {v:Value} (X:K.In h) (ha:findIn K (.ref C) "__class__" = some (some (.builtin "object.__class__"))) (hn:specialIn K (.builtin "object.__class__") "__get__" = some (some (.builtin "getset_descriptor.__get__"))) (htk:takesIn K (.builtin "object.__class__") = some true) :
  Looks M h (find v (.ref C) "__class__") (.bind (.builtin "getset_descriptor.__get__") (.builtin "object.__class__")):=by
 have l1:=looks_findIn (M:=M) X ha
 have l2:Looks M h (getOf (some (.builtin "object.__class__"))) (some (.builtin "getset_descriptor.__get__")):=looks_specialIn X hn
 have l3:Looks M h (dataDescriptor? (some (.builtin "object.__class__")) (some (.builtin "getset_descriptor.__get__"))) (some (.builtin "getset_descriptor.__get__",.builtin "object.__class__")):=(looks_takesIn (M:=M) X htk).andThen .now
 exact l1.andThen (l2.andThen (l3.andThen (Looks.tag .now)))
structure KGet (K:Frag) (C:Addr):Prop where
 ga:findIn K (.ref C) "__getattribute__" = some (some (.builtin "BaseException.__getattribute__"))
 gn:findIn K (.ref C) "__getattr__" = some none
 a:findIn K (.ref C) "__class__" = some (some (.builtin "object.__class__"))
 n:specialIn K (.builtin "object.__class__") "__get__" = some (some (.builtin "getset_descriptor.__get__"))
 t:takesIn K (.builtin "object.__class__") = some true
 m:mroIn K C (.type "object") = some true
 mb:mroIn K C (.type "BaseException") = some true
theorem exc_check {tk:Tok} {Q:Unit → Shared → Prop} (k:KGet K C) (X:K.In s.heap) (hx:ExcCls x C s.heap) (h:Q () s):wpAny (model prog w) A (checkBuiltinCall "BaseException.__getattribute__" ⟨[.ref x,.str "__class__" tk],[]⟩) Q E s:=by
 have T:=excCls_type (M:=model prog w) hx
 have O:=looks_mroIn (M:=model prog w) X k.mb
 have hk:builtinKind "BaseException.__getattribute__" = some .slot:=by decide +kernel
 have hsplit:splitId "BaseException.__getattribute__" = some ("BaseException","__getattribute__"):=by decide +kernel
 have ha:=F.args_bexc_ga (.ref x) (.str "__class__" tk)
 obtain ⟨hh,g,dr,t,os⟩:=s
 simp only [checkBuiltinCall,hk,hsplit]
 refine wpAny_bind ?_
 unfold isInstance
 repeat lk
 repeat (any_goals (first | assumption | wp_step))
theorem exc_entry {tk:Tok} {R:Result → Shared → Prop} (k:KGet K C) (X:K.In s.heap) (hx:ExcCls x C s.heap) (h:R (.ok (.ret (.ref C))) s) :
  codeAny (model prog w) A (.call (.builtin "BaseException.__getattribute__") ⟨[.ref x,.str "__class__" tk],[]⟩) R s:=by
 have T:=excCls_type (M:=model prog w) hx
 have Fd:=exc_find (M:=model prog w) (v:=.ref x) X k.a k.n k.t
 have go:∀ A',codeAny (model prog w) A' (.call (.builtin "getset_descriptor.__get__") ⟨[.builtin "object.__class__",.ref x,.ref C],[]⟩) (fun r s' => match r with | .ok (.ret v) => v = .ref C ∧ s' = s | _ => False) s :=
  fun A' => exc_get (s:=s) X hx k.m ⟨rfl,rfl⟩
 refine codeAny_call_builtin F.attrBase_ValueError.ga.plain F.entry_bexc_ga (exc_check k X hx ?_)
 obtain ⟨hh,g,d,t,os⟩:=s
 unfold Builtin.«object.__getattribute__»
 refine wpAny_bind (wpAny_pure ?_)
 refine wpAny_bind (wpAny_pure ?_)
 refine wpAny_bind (T.at (wpAny_bind (Fd.at ?_)))
 show wpAny _ _ (holding [_] (call _ [_,.ref x,.ref C]) >>= ret) _ _ _
 refine wpAny_bind (wpAny_holding (wpAny_call (codeAny_mono (go _) fun r s' q => ?_)))
 match r,q with
 | .ok (.ret v),q =>
  obtain ⟨rfl,rfl⟩:=q
  exact wpAny_pure h
theorem exc_class {Q:Option Value → Shared → Prop} (k:KGet K C) (X:K.In s.heap) (hx:ExcCls x C s.heap) (h:Q (some (.ref C)) { s with toks:=s.toks + 1 }):wpAny (model prog w) A (getAttr? (.ref x) "__class__") Q E s:=by
 have T:=excCls_type (M:=model prog w) hx
 have G:=looks_findIn (M:=model prog w) X k.ga
 have N:=looks_findIn (M:=model prog w) X k.gn
 have go:∀ A',codeAny (model prog w) A' (.call (.builtin "BaseException.__getattribute__") ⟨[.ref x,.str "__class__" s.toks],[]⟩) (fun r s' => match r with | .ok (.ret v) => v = .ref C ∧ s' = { s with toks:=s.toks + 1 } | _ => False) { s with toks:=s.toks + 1 } :=
  fun A' => exc_entry (s:={ s with toks:=s.toks + 1 }) k X hx ⟨rfl,rfl⟩
 obtain ⟨hh,g,d,t,os⟩:=s
 unfold getAttr? getAttrBy? getAttrBy
 refine wpAny_bind (wpAny_mkText (wpAny_bind (wpAny_attempt (wpAny_holding (wpAny_bind (T.at (wpAny_bind (G.at ?_))))))))
 show wpAny _ _ (getAttrByItsOwn _ _ _ _ _ _) _ _ _
 unfold getAttrByItsOwn hookBefore callGetattribute boundAndCalled
 refine wpAny_bind (N.at ?_)
 refine wpAny_bind (wpAny_attempt (wpAny_holding ?_))
 show wpAny _ _ (bindSpecial (.builtin "BaseException.__getattribute__") (.ref x) >>= _) _ _ _
 refine wpAny_bind (wpAny_of_eq (F.attrBase_ValueError.ga.bind _) ?_)
 refine wpAny_call (codeAny_mono (go _) fun r s' q => ?_)
 match r,q with
 | .ok (.ret v),q =>
  obtain ⟨rfl,rfl⟩:=q
  exact handed_on rfl (wpAny_pure h)
structure KExc (K:Frag) (C:Addr):Prop extends KGet K C where
 cl:(clsIn K C).isSome = true
theorem kexc_obj {h:Heap} (k:KExc K C) (X:K.In h):∃ c d cd sl,h.get? C = some ⟨c,d,.cls cd,sl⟩:=by
 obtain ⟨cd,hc⟩:=Option.isSome_iff_exists.mp k.cl
 unfold clsIn at hc
 split at hc
 ·rename_i c' d' cd' sl' ho
  exact ⟨_,_,_,_,X _ _ ho⟩
 ·cases hc
theorem kitx_exc (k:KExc K C):KitX K (.ref x) (.ref C) (ExcCls x C) where
 ty:=fun _ _ _ hx => excCls_type hx
 it:=fun _ _ X _ => by
  obtain ⟨c,d,cd,sl,ho⟩:=kexc_obj k X
  intro A' Q' E' s' kk q
  unfold isType loadHead
  exact wpAny_bind (wpAny_loadPart (kk _ _ ho) (wpAny_pure q))
 ne:=fun h tp dd its n sl X htp => by
  obtain ⟨c,d,cd,sl',ho⟩:=kexc_obj k X
  refine Bool.eq_false_iff.mpr fun q => ?_
  have e:C = tp:=Value.ref.inj (beq_iff_eq.mp q)
  subst e
  rw [ho] at htp
  cases htp
 ca:=fun X hx h => exc_class k.toKGet X hx h
end
end L2
namespace Fw
open PySem L2 PyProof.Rows
structure KCls (K:PySem.W.Frag) (n:Str) (C:Addr):Prop where
 ns:PySem.W.nsIn K mainGlobals n = some (some (.ref C))
 ke:KExc K C
noncomputable def isGR (X:Cx) (c:V) (r:Addr → Option Bool):List V → Hp → VK → Prop:=fun xs H Q => ∃ a n C b,xs = [.ref a,c] ∧ H a = some (.ext (ExcAt X.K a n none)) ∧ KCls X.K n C ∧ r C = some b ∧ Q (.bl b) H
noncomputable def isTR (X:Cx) (r:Addr → List Addr → Option Bool):List V → Hp → VK → Prop:=fun xs H Q => ∃ a p Ds n C b,xs = [.ref a,.ref p] ∧ H a = some (.ext (ExcAt X.K a n none)) ∧ H p = some (.tup (Ds.map V.ref)) ∧ KCls X.K n C ∧ r C Ds = some b ∧ Q (.bl b) H
section
variable {X:Cx} {D:Addr} {Tn:String} {x:Str} {p p2 pos:Pos} {a:Expr} {da:Fw.D} {f:Str → Option Bool}
theorem exc_of {pins:List (Addr × Obj)} {σ:L2.St} {H:Hp} {s:Shared} {a C:Addr} {n:Str} (I:Inv X pins σ H s) (hH:H a = some (.ext (ExcAt X.K a n none))) (k:KCls X.K n C):ExcCls a C s.heap:=by
 obtain ⟨⟨C',hns',hx⟩,_,_⟩:=(show ObjOk X.prog X.w H s.heap a (.ext (ExcAt X.K a n none)) from I.hok a _ hH)
 rw [k.ns] at hns'
 cases hns'
 exact hx
theorem call_isG:CallR X (.builtin "isinstance") (isGR X (.ref D) fun C => PySem.W.kitOne X.K (.ref C) (.ref D)):=by
 intro pins s σ H xs us Q I r h
 obtain ⟨a,n,C,b,rfl,hH,k,hb,q⟩:=h
 obtain ⟨u1,u2,rfl,r1,r2⟩:=vals2 r
 cases r1
 cases r2
 exact PySem.W.kia_one (kitx_exc k.ke) (in_of I) (exc_of I hH k) hb (fun z => nomatch z) fun tk => ⟨.bl b,H,I.tok _,rfl,q⟩
theorem call_isGT:CallR X (.builtin "isinstance") (isGR X (.ty Tn) fun C => PySem.W.kitOne X.K (.ref C) (.type Tn)):=by
 intro pins s σ H xs us Q I r h
 obtain ⟨a,n,C,b,rfl,hH,k,hb,q⟩:=h
 obtain ⟨u1,u2,rfl,r1,r2⟩:=vals2 r
 cases r1
 have r2:u2 = Value.type Tn:=r2
 subst r2
 exact PySem.W.kia_one (kitx_exc k.ke) (in_of I) (exc_of I hH k) hb (fun z => nomatch z) fun tk => ⟨.bl b,H,I.tok _,rfl,q⟩
theorem refs_vals:∀ {Ds:List Addr} {us:List Value},Vals (Ds.map V.ref) us → us = Ds.map Value.ref
 | [],us,r => by cases r; rfl
 | D :: Ds,us,r => by
  cases r with
  | cons h r => cases h; rw [refs_vals r]; rfl
theorem call_isU:CallR X (.builtin "isinstance") (isTR X fun C Ds => PySem.W.kitAny X.K (.ref C) (Ds.map Value.ref)):=by
 intro pins s σ H xs us Q I r h
 obtain ⟨a,p,Ds,n,C,b,rfl,hH,hp,k,hb,q⟩:=h
 obtain ⟨u1,u2,rfl,r1,r2⟩:=vals2 r
 cases r1
 cases r2
 obtain ⟨_,ws,rr,⟨o,ho,hc,nn,hd⟩⟩:=(show ObjOk X.prog X.w H s.heap p (.tup (Ds.map V.ref)) from I.hok p _ hp)
 have ew:=refs_vals rr
 subst ew
 obtain ⟨cl,dd,dt,sl⟩:=o
 simp only at hc hd
 subst hc hd
 exact PySem.W.kia_tup (kitx_exc k.ke) (in_of I) (exc_of I hH k) ho hb (fun z => nomatch z) fun tk => ⟨.bl b,H,I.tok _,rfl,q⟩
theorem isG_read {σ:L2.St} {H:Hp} {Q:VK} {c:V} {r:Addr → Option Bool} (hf:∀ n b,f n = some b → ∃ C,KCls X.K n C ∧ r C = some b) (h:tD X (dIsG f da) σ H Q) :
  tCons (tD X da) (tCons (tC c) tNil) σ H fun vs H1 => isGR X c r vs H1 Q:=by
 obtain ⟨F,α,e,μ,S,h⟩:=h
 refine ⟨F,α,e,μ,S,(R.wp_bind h).mono (fun x μ1 h v H1 F1 α1 x1 S1 o1 => ?_) fun _ _ h => h⟩
 match x,h with
 | .val (.exc n none),h =>
  have h:(match f n with | some b => R.ok (SV.val (T.bl b)) μ1 | none => R.bad).wp (Post X.K F α H e σ Q) (XPost X F α H e):=h
  cases hn:f n with
  | some b =>
   rw [hn] at h
   obtain ⟨C,h1,h2⟩:=hf n b hn
   obtain ⟨a,rfl,hF⟩:=(show ∃ a,v = .ref a ∧ F1 a = some (.ext (ExcAt X.K a n none)) from o1)
   exact ⟨a,n,C,b,rfl,S1.st.ext a _ hF,h1,h2,h _ H1 F1 α1 x1 S1 (Rep.bl' (K:=X.K) (F:=F1) b)⟩
  | none => rw [hn] at h; exact h.elim
 | .val (.exc n (some t)),h => exact h.elim
 | .val .non,h => exact h.elim
 | .val (.bl b),h => exact h.elim
 | .val (.int i),h => exact h.elim
 | .val (.str y),h => exact h.elim
 | .val (.lst y),h => exact h.elim
 | .val (.tup y),h => exact h.elim
 | .val (.dct y),h => exact h.elim
 | .cel k,h => exact h.elim
 | .box y,h => exact h.elim
theorem ce_isG (hi:X.mg "isinstance" = none) (hm:X.mg x = some (.ref D)) (hf:∀ n b,f n = some b → ∃ C,KCls X.K n C ∧ PySem.W.kitOne X.K (.ref C) (.ref D) = some b) (ha:CE X a da) (hg1:Gl X "isinstance":=by rfl) (hg:Gl X x:=by rfl) (hd:(x == ("__debug__":Str)) = false:=by decide)
  (hs1:starEach [a,.Name x p2] X.env = (false,eval a X.env) :: starEach [.Name x p2] X.env:=by rfl) (hs2:starEach [.Name x p2] X.env = (false,eval (.Name x p2) X.env) :: starEach [] X.env:=by rfl) (hpl:(backTo pos (starEach [.Name x p2] X.env)).any (·.1) = false:=by rfl) :
  CE X (.Call (.Name "isinstance" p) [a,.Name x p2] [] pos) (dIsG f da) :=
 PE.imp (pe_callB call_isG hg1 hi PyProof.Rows.boot_isinstance (pa_cons ha (pa_cons (pe_glob (v:=.ref D) hg hm rfl hd) pa_nil hs2) hs1) (by decide) (by decide) hs1 hpl) fun σ H Q h => isG_read hf h
theorem ce_isGT (hi:X.mg "isinstance" = none) (hm:X.mg x = none) (hv:bootBuiltins x = some (.type Tn)) (hf:∀ n b,f n = some b → ∃ C,KCls X.K n C ∧ PySem.W.kitOne X.K (.ref C) (.type Tn) = some b) (ha:CE X a da) (hg1:Gl X "isinstance":=by rfl) (hg:Gl X x:=by rfl) (hn:x ≠ "__name__":=by decide) (hd:(x == ("__debug__":Str)) = false:=by decide)
  (hs1:starEach [a,.Name x p2] X.env = (false,eval a X.env) :: starEach [.Name x p2] X.env:=by rfl) (hs2:starEach [.Name x p2] X.env = (false,eval (.Name x p2) X.env) :: starEach [] X.env:=by rfl) (hpl:(backTo pos (starEach [.Name x p2] X.env)).any (·.1) = false:=by rfl) :
  CE X (.Call (.Name "isinstance" p) [a,.Name x p2] [] pos) (dIsG f da) :=
 PE.imp (pe_callB call_isGT hg1 hi PyProof.Rows.boot_isinstance (pa_cons ha (pa_cons (pe_bltn (v:=.ty Tn) hg hm hv rfl hn hd) pa_nil hs2) hs1) (by decide) (by decide) hs1 hpl) fun σ H Q h => isG_read hf h
noncomputable def nmTA:List NmD → TA
 | [] => tNil
 | n :: ns => tCons (tC (.ref n.2.2)) (nmTA ns)
theorem pa_names:∀ (ns:List NmD),(∀ n ∈ ns,NmOk X n) → PA X (ns.map nmE) (nmTA ns)
 | [],_ => pa_nil
 | n :: ns,ok => pa_cons (pe_glob (v:=.ref n.2.2) (ok n (.head _)).g (ok n (.head _)).m rfl (ok n (.head _)).d) (pa_names ns fun m h => ok m (.tail _ h)) rfl
theorem nmTA_read:∀ (ns:List NmD) {σ:L2.St} {H:Hp} {Q:List V → Hp → Prop},Q (ns.map fun n => V.ref n.2.2) H → nmTA ns σ H Q
 | [],σ,H,Q,h => h
 | n :: ns,σ,H,Q,h => nmTA_read ns (Q:=fun xs H2 => Q (.ref n.2.2 :: xs) H2) h
theorem ce_isGU {x1} {tp:Pos} (ns:List NmD) (hi:X.mg "isinstance" = none) (ok:∀ n ∈ ns,NmOk X n) (hl:ns.length ≤ 1000) (hf:∀ n b,f n = some b → ∃ C,KCls X.K n C ∧ PySem.W.kitAny X.K (.ref C) (ns.map fun n => .ref n.2.2) = some b) (ha:CE X a da) (hg1:Gl X "isinstance":=by rfl)
  (hs1:starEach [a,.Tuple (ns.map nmE) x1 tp] X.env = (false,eval a X.env) :: starEach [.Tuple (ns.map nmE) x1 tp] X.env:=by rfl) (hs2:starEach [.Tuple (ns.map nmE) x1 tp] X.env = (false,eval (.Tuple (ns.map nmE) x1 tp) X.env) :: starEach [] X.env:=by rfl) (hpl:(backTo pos (starEach [.Tuple (ns.map nmE) x1 tp] X.env)).any (·.1) = false:=by rfl) :
  CE X (.Call (.Name "isinstance" p) [a,.Tuple (ns.map nmE) x1 tp] [] pos) (dIsG f da) :=
 PE.imp (pe_callB call_isU hg1 hi PyProof.Rows.boot_isinstance (pa_cons ha (pa_cons (pe_tup (pa_names ns ok)) pa_nil hs2) hs1) (by decide) (by decide) hs1 hpl) fun σ H Q hX11_ => by
  obtain ⟨F,α,e,μ,S,h⟩:=hX11_
  refine ⟨F,α,e,μ,S,(R.wp_bind h).mono (fun x μ1 h v H1 F1 α1 x1 S1 o1 => ?_) fun _ _ h => h⟩
  refine nmTA_read ns ⟨by rw [List.length_map]; exact Nat.le_of_lt (small1000 hl),fun q hq => ?_⟩
  match x,h with
  | .val (.exc n none),h =>
   have h:(match f n with | some b => R.ok (SV.val (T.bl b)) μ1 | none => R.bad).wp (Post X.K F α H e σ Q) (XPost X F α H e):=h
   cases hn:f n with
   | some b =>
    rw [hn] at h
    obtain ⟨C,h1,h2⟩:=hf n b hn
    obtain ⟨a,rfl,hF⟩:=(show ∃ a,v = .ref a ∧ F1 a = some (.ext (ExcAt X.K a n none)) from o1)
    have hH:=S1.st.ext a _ hF
    have hne:a ≠ q:=fun z => by rw [← z,hH] at hq; cases hq
    have g:Grow F1 H1 (upd F1 q (.tup (ns.map fun n => V.ref n.2.2))) (upd H1 q (.tup (ns.map fun n => V.ref n.2.2))):=Grow.new hq
    refine ⟨a,q,ns.map fun n => n.2.2,n,C,b,rfl,by rw [upd_ne hne]; exact hH,by rw [upd_same,List.map_map]; rfl,h1,by show PySem.W.kitAny X.K (.ref C) ((ns.map fun n => n.2.2).map Value.ref) = some b; rw [List.map_map]; exact h2,?_⟩
    exact h _ _ _ α1 (x1.trans (g.ex S1.st.ext)) (S1.grow g) (Rep.bl' (K:=X.K) (F:=upd F1 q (.tup (ns.map fun n => V.ref n.2.2))) b)
   | none => rw [hn] at h; exact h.elim
  | .val (.exc n (some t)),h => exact h.elim
  | .val .non,h => exact h.elim
  | .val (.bl b),h => exact h.elim
  | .val (.int i),h => exact h.elim
  | .val (.str y),h => exact h.elim
  | .val (.lst y),h => exact h.elim
  | .val (.tup y),h => exact h.elim
  | .val (.dct y),h => exact h.elim
  | .cel k,h => exact h.elim
  | .box y,h => exact h.elim
end
end Fw
namespace Fw.H
open PySem Fw
noncomputable def IsPr (p:Int):Prop:=p ∈ ([2,3,5,7,11,13,17,19,23,29,31,37,41,43,47,53,59,61,67,71,73,79,83,89,97]:List Int)
theorem IsPr.pos {p:Int} (h:IsPr p):2 ≤ p ∧ p ≤ 97:=by
 have key:∀ p ∈ ([2,3,5,7,11,13,17,19,23,29,31,37,41,43,47,53,59,61,67,71,73,79,83,89,97]:List Int),2 ≤ p ∧ p ≤ 97:=by decide +kernel
 exact key p h
end Fw.H
namespace Fw
open PySem PySem.Spec PyProof.Rows L2
structure Gf (K:PySem.W.Frag) (mg:Str → Option Value) (x:Str) (st:Stmt) (ps:List Str) (f:Addr) (fd:FuncData):Prop where
 F:Fun K x x st f fd
 b:Binds K fd ps []
 m:mg x = some (.ref f)
noncomputable def relabelS (scope so:Scope):Scope:={ scope with names:=scope.names.map fun (n,k) => if (k == .free && so.kind == .function && so.names.lookup n == some .cell) then (n,.cell) else (n,k) }
noncomputable def CompOk (N N':List Str) (scope so:Scope) (mp:List (Option Nat)):Prop :=
 scope.kind = .function ∧ (scope.names.filter fun y => y.2 == NameKind.cell).length ≤ 1 ∧ (scope.names.map (·.1)).Nodup ∧ (∀ y ∈ scope.names,(y.2 = .local → scope.names.lookup y.1 = some .local) ∧ (y.2 = .free → (so.names.lookup y.1 = some .cell ∨ so.names.lookup y.1 = some .free) ∧
  ((relabelS scope so).names.lookup y.1 = some .cell ∨ (relabelS scope so).names.lookup y.1 = some .free))) ∧ mp.length = N'.length ∧
 ∀ q ∈ mp.zip N',match q.1 with
  | none => True
  | some j => N[j]? = some q.2 ∧ (q.2,NameKind.free) ∈ scope.names ∧ (so.names.lookup q.2 = some .cell ∨ so.names.lookup q.2 = some .free)
noncomputable instance (N N':List Str) (scope so:Scope) (mp:List (Option Nat)):Decidable (CompOk N N' scope so mp):=by
 unfold CompOk
 have:∀ q:Option Nat × Str,Decidable (match q.1 with
  | none => True
  | some j => N[j]? = some q.2 ∧ (q.2,NameKind.free) ∈ scope.names ∧ (so.names.lookup q.2 = some .cell ∨ so.names.lookup q.2 = some .free)):=fun q => by
  cases q.1 <;> infer_instance
 infer_instance
theorem lookup_of_mem {α:Type} {x:Str} {k:α}:∀ {l:List (Str × α)},(l.map (·.1)).Nodup → (x,k) ∈ l → l.lookup x = some k
 | [],_,h => by cases h
 | (y,k') :: l,nd,h => by
  have nd':=List.nodup_cons.mp (by simpa using nd:(y :: l.map (·.1)).Nodup)
  rw [List.lookup_cons]
  rcases List.mem_cons.mp h with e | h
  ·cases e; simp
  ·have:(x == y) = false:=by
    have:x ≠ y:=fun q => nd'.1 (List.mem_map.mpr ⟨_,h,q⟩)
    simpa using this
   rw [this]
   exact lookup_of_mem nd'.2 h
theorem compScope_of {X:Cx} {N':List Str} {scope:Scope} {mp:List (Option Nat)} (so:Scope) (hso:X.env.scope = so) (N:List Str) (hN:X.N = N) (h:CompOk N N' scope so mp):CompScope X N' scope mp:=by
 subst hso
 subst hN
 obtain ⟨h1,hc1,hnd,h2,h3,h4⟩:=h
 have er:(relabel scope X.env).names = (relabelS scope X.env.scope).names:=rfl
 refine ⟨h1,hc1,hnd,fun y hy => (h2 y hy).1,fun y hy hf => ((h2 y hy).2 hf).1,h3,fun i j hij => ?_,fun x hx => ?_,fun x hx => ?_⟩
 ·have hi:i < mp.length:=(List.getElem?_eq_some_iff.mp hij).1
  have hz:(mp.zip N')[i]? = some (some j,N'[i]'(by omega)):=by
   rw [List.getElem?_zip_eq_some]
   exact ⟨hij,by simp⟩
  have:=h4 _ (List.mem_of_getElem? hz)
  exact ⟨_,by simp,this⟩
 ·rw [er]; exact ((h2 _ hx).2 rfl).2
 ·rw [er] at hx
  have mem:∀ k,(relabelS scope X.env.scope).names.lookup x = some k → (k = .cell ∨ k = .free) → (x,NameKind.free) ∈ scope.names ∨ scope.names.lookup x = some .cell:=fun k hk hkk => by
   have hm:=PySem.mem_of_lookup hk
   unfold relabelS at hm
   obtain ⟨⟨n,k'⟩,hm1,hm2⟩:=List.mem_map.mp hm
   by_cases hc:(k' == .free && X.env.scope.kind == .function && X.env.scope.names.lookup n == some .cell) = true
   ·simp only [hc,if_true] at hm2
    cases hm2
    have:k' = .free:=by
     simp only [Bool.and_eq_true,beq_iff_eq] at hc
     exact hc.1.1
    subst this
    exact .inl hm1
   ·simp only [hc,if_false] at hm2
    cases hm2
    rcases hkk with rfl | rfl
    ·exact .inr (lookup_of_mem hnd hm1)
    ·exact .inl hm1
  rcases hx with hx | hx
  ·exact mem _ hx (.inl rfl)
  ·exact mem _ hx (.inr rfl)
theorem sp_law {K:PySem.W.Frag} {fn:FN} {H:Hp} {a:Addr} {ns:List Int} (hlaw:∀ ns:List Int,ns.length ≤ 63 → ∃ μ',fn [.val (.lst (ns.map T.int))] [] = .ok (.val (.bl true)) μ') (hl:ns.length ≤ 63) (hS:SqL K H a (ns.map V.int)) :
  spD K fn 1 [.ref a] H (fun v _ => v = .bl true) (fun _ _ _ => False):=by
 obtain ⟨μ',h⟩:=hlaw ns hl
 refine ⟨rfl,H,[],[],_,_,μ',⟨Same.refl _,rfl,List.nodup_nil,fun k a h => by simp at h,fun k b t a h => by simp at h⟩,.cons ?_ .nil,h,fun v H' F' α' _ _ o => Rep.of_bl (K:=K) (F:=F') o⟩
 show Rep K H (.lst (ns.map T.int)) (.ref a)
 rw [Rep]
 exact ⟨a,_,rfl,hS,RepL.of_ints ns⟩
section
variable {K:PySem.W.Frag}
theorem Now.lst_ {F H:Hp} {v:V} {ts:List T} (h:Now K F H v (.lst ts)):∃ a vs,v = .ref a ∧ SqL K H a vs ∧ RepL K F ts vs:=h
theorem Now.tup_ {F H:Hp} {v:V} {ts:List T} (h:Now K F H v (.tup ts)):∃ a vs,v = .ref a ∧ SqT K F a vs ∧ RepL K F ts vs:=h
theorem sem_ii {r:R2} {f:T → T → Option T} (g:Int → Int → T) (gV:Int → Int → V) (C:Int → Int → Prop) (hr:∀ i j H Q,C i j → Q (gV i j) H → r (.int i) (.int j) H Q)
  (hf:∀ t u w,f t u = some w → ∃ i j,t = .int i ∧ u = .int j ∧ w = g i j ∧ C i j) (hg:∀ F i j,Rep K F (g i j) (gV i j)):OpSem K r f:=by
 intro F H v u t t' w Q s hv hu hw q
 obtain ⟨i,j,rfl,rfl,rfl,hc⟩:=hf _ _ _ hw
 cases hv.int
 cases hu.int
 exact hr i j H Q hc (q _ H F Grow.refl (hg F i j))
theorem sem_sub:OpSem K (rI0 fun i j => .int (i - j)) fSub:=sem_ii (fun i j => .int (i - j)) (fun i j => .int (i - j)) (fun _ _ => True) (fun i j H Q _ q => ⟨i,j,rfl,rfl,q⟩)
 (fun t u w h => by cases t <;> cases u <;> first | (cases h; exact ⟨_,_,rfl,rfl,rfl,trivial⟩) | cases h) fun F i j => Rep.int' _
theorem sem_mod:OpSem K (rI (fun _ j => 0 < j) fun i j => .int (i % j)) fMod:=sem_ii (fun i j => .int (i % j)) (fun i j => .int (i % j)) (fun _ j => 0 < j) (fun i j H Q c q => ⟨i,j,rfl,rfl,c,q⟩)
 (fun t u w h => by
  cases t <;> cases u <;> first | cases h | skip
  rename_i i j
  by_cases hj:0 < j
  ·have h:(if 0 < j then some (T.int (i % j)) else none) = some w:=h
   rw [if_pos hj] at h
   cases h
   exact ⟨_,_,rfl,rfl,rfl,hj⟩
  ·have h:(if 0 < j then some (T.int (i % j)) else none) = some w:=h
   rw [if_neg hj] at h; cases h) fun F i j => Rep.int' _
theorem sem_div:OpSem K (rI CDiv fun i j => .int (i / j)) fDiv:=sem_ii (fun i j => .int (i / j)) (fun i j => .int (i / j)) CDiv (fun i j H Q c q => ⟨i,j,rfl,rfl,c,q⟩)
 (fun t u w h => by
  cases t <;> cases u <;> first | cases h | skip
  rename_i i j
  have h:(if 0 < j ∧ j < 1073741824 then some (T.int (i / j)) else none) = some w:=h
  by_cases hj:0 < j ∧ j < 1073741824
  ·rw [if_pos hj] at h
   cases h
   exact ⟨_,_,rfl,rfl,rfl,hj⟩
  ·rw [if_neg hj] at h; cases h) fun F i j => Rep.int' _
theorem sem_pow:OpSem K (rI CPow fun i j => .int (i ^ j.toNat)) fPow:=sem_ii (fun i j => .int (i ^ j.toNat)) (fun i j => .int (i ^ j.toNat)) CPow (fun i j H Q c q => ⟨i,j,rfl,rfl,c,q⟩)
 (fun t u w h => by
  cases t <;> cases u <;> first | cases h | skip
  rename_i i j
  have h:(if 0 ≤ j ∧ j ≤ 1000 ∧ -(2 ^ 64) < i ∧ i < 2 ^ 64 then some (T.int (i ^ j.toNat)) else none) = some w:=h
  by_cases hj:0 ≤ j ∧ j ≤ 1000 ∧ -(2 ^ 64) < i ∧ i < 2 ^ 64
  ·rw [if_pos hj] at h
   cases h
   exact ⟨_,_,rfl,rfl,rfl,hj.1,by omega,by omega⟩
  ·rw [if_neg hj] at h; cases h) fun F i j => Rep.int' _
theorem sem_lt:OpSem K (rI0 fun i j => .bl (decide (i < j))) fLt:=sem_ii (fun i j => .bl (decide (i < j))) (fun i j => .bl (decide (i < j))) (fun _ _ => True) (fun i j H Q _ q => ⟨i,j,rfl,rfl,q⟩)
 (fun t u w h => by cases t <;> cases u <;> first | (cases h; exact ⟨_,_,rfl,rfl,rfl,trivial⟩) | cases h) fun F i j => Rep.bl' _
theorem sem_le:OpSem K (rI0 fun i j => .bl (decide (i ≤ j))) fLe:=sem_ii (fun i j => .bl (decide (i ≤ j))) (fun i j => .bl (decide (i ≤ j))) (fun _ _ => True) (fun i j H Q _ q => ⟨i,j,rfl,rfl,q⟩)
 (fun t u w h => by cases t <;> cases u <;> first | (cases h; exact ⟨_,_,rfl,rfl,rfl,trivial⟩) | cases h) fun F i j => Rep.bl' _
theorem sem_gt:OpSem K (rI0 fun i j => .bl (decide (j < i))) fGt:=sem_ii (fun i j => .bl (decide (j < i))) (fun i j => .bl (decide (j < i))) (fun _ _ => True) (fun i j H Q _ q => ⟨i,j,rfl,rfl,q⟩)
 (fun t u w h => by cases t <;> cases u <;> first | (cases h; exact ⟨_,_,rfl,rfl,rfl,trivial⟩) | cases h) fun F i j => Rep.bl' _
end
section
variable {X:Cx} {a b c:Expr} {da db dc:D} {pos p p2:Pos}
theorem ce_sub (ha:CE X a da) (hb:CE X b db):CE X (.BinOp a .Sub b pos) (dBin fSub da db):=ce_bin op_sub sem_sub ha hb
theorem ce_mod (ha:CE X a da) (hb:CE X b db):CE X (.BinOp a .Mod b pos) (dBin fMod da db):=ce_bin op_mod sem_mod ha hb
theorem ce_div (ha:CE X a da) (hb:CE X b db):CE X (.BinOp a .FloorDiv b pos) (dBin fDiv da db):=ce_bin op_fdiv sem_div ha hb
theorem ce_pow (ha:CE X a da) (hb:CE X b db):CE X (.BinOp a .Pow b pos) (dBin fPow da db):=ce_bin op_pow sem_pow ha hb
theorem ce_lt (ha:CE X a da) (hb:CE X b db):CE X (.Compare a [.Lt] [b] pos) (dBin fLt da db):=ce_cmp op_lt sem_lt (nomark _) ha hb
theorem ct_lt (ha:CE X a da) (hb:CE X b db):CT X (.Compare a [.Lt] [b] pos) (dBin fLt da db):=ct_cmp op_lt sem_lt (nomark _) ha hb
theorem ct_gt (ha:CE X a da) (hb:CE X b db):CT X (.Compare a [.Gt] [b] pos) (dBin fGt da db):=ct_cmp op_gt sem_gt (nomark _) ha hb
theorem ce_neg (ha:CE X a da):CE X (.UnaryOp .USub a pos) (dUn fNeg da):=ce_un un_neg (by
 intro F H v t w Q s hv hw q
 cases t <;> first | cases hw | skip
 cases hv.int
 exact ⟨_,rfl,q _ H F Grow.refl (Rep.int' _)⟩) ha
end
end Fw
namespace L2
open PySem PySem.Spec PyProof.Rows
section
variable {X:Cx}
noncomputable def rCatTA (K:PySem.W.Frag):R2:=fun x y H Q => ∃ a b xs ys,x = .ref a ∧ y = .ref b ∧ SqT K H a xs ∧ SqT K H b ys ∧ xs.length + ys.length ≤ sizeLine ∧
 (xs = [] → Q (.ref b) H) ∧ (xs ≠ [] → ys = [] → Q (.ref a) H) ∧ (xs ≠ [] → ys ≠ [] → ∀ p,H p = none → Q (.ref p) (upd H p (.tup (xs ++ ys))))
theorem op_catTA:OpR X (binaryOp .Add) (rCatTA X.K):=by
 intro pins s σ H x y v u Q I rx ry h
 obtain ⟨a,b,xs,ys,hx0,hy0,ha,hb,hz,q0,q1,q2⟩:=h
 by_cases hx:xs = []
 ·subst hx0; subst hy0
  cases rx
  cases ry
  obtain ⟨its,r1,p1,_⟩:=I.tuple ha
  obtain ⟨its2,r2,p2,_⟩:=I.tuple hb
  obtain ⟨⟨cls,dd,data,sl⟩,ho,hc,n,hd⟩:=id p1
  obtain ⟨⟨cls2,dd2,data2,sl2⟩,ho2,hc2,n2,hd2⟩:=id p2
  simp only at hc hd hc2 hd2
  subst hc hd hc2 hd2
  have e:its = []:=r1.nil_iff.mpr hx
  exact concat_meets ⟨_,ho,rfl⟩ ⟨_,ho2,rfl⟩ noFill_tuple_add seq_tuple_add PySem.F.slot_tuple_add PySem.F.entry_tuple_add (PySem.F.args_tuple_add_2 _ _)
   (tuple_addW0 a b its.toArray its2.toArray n n2 dd dd2 sl sl2 (by simp [e])) ⟨ho,ho2,.ref b,H,I,rfl,q0 hx⟩
 ·exact op_catT pins s σ H x y v u Q I rx ry ⟨a,b,xs,ys,hx0,hy0,ha,hb,hx,hz,q1 hx,q2 hx⟩
noncomputable def rCatS (K:PySem.W.Frag):R2:=fun x y H Q => ∃ l b xs zs,x = .ref l ∧ y = .ref b ∧ SqL K H l xs ∧ SqL K H b zs ∧ xs.length + zs.length ≤ sizeLine ∧ ∀ p,H p = none → Q (.ref p) (upd H p (.lst (xs ++ zs)))
theorem op_catS:OpR X (binaryOp .Add) (rCatS X.K):=by
 intro pins s σ H x y v u Q I rx ry h
 obtain ⟨l,b,xs,zs,rfl,rfl,hA,hB,hz,q⟩:=h
 cases rx
 cases ry
 obtain ⟨its,r,p1,_⟩:=I.list hA
 obtain ⟨its2,r2,p2,_⟩:=I.list hB
 obtain ⟨⟨cls,dd,data,sl⟩,ho,hc,n,hd⟩:=id p1.isList
 obtain ⟨⟨cls2,dd2,data2,sl2⟩,ho2,hc2,n2,hd2⟩:=id p2.isList
 simp only at hc hd hc2 hd2
 subst hc hd hc2 hd2
 have hl:=r.length
 have hl2:=r2.length
 have e:its.toArray ++ its2.toArray = (its ++ its2).toArray:=by simp
 refine concat_meets ⟨_,ho,rfl⟩ ⟨_,ho2,rfl⟩ noFill_list_add seq_list_add PySem.F.slot_list_add PySem.F.entry_list_add (PySem.F.args_list_add_2 _ _)
  (list_addW l b its.toArray its2.toArray n n2 dd dd2 sl sl2 (by rw [List.size_toArray,List.size_toArray]; lia)) ⟨ho,ho2,?_⟩
 rw [e]
 exact ⟨.ref _,_,I.lnew (t':=s.toks) (r.append r2) (by rw [List.length_append]; lia),rfl,q _ I.fresh⟩
end
end L2
namespace Fw
open PySem PySem.Spec PyProof.Rows L2
section
variable {K:PySem.W.Frag}
theorem szL_eq:szL = sizeLine:=rfl
theorem RepL.nil_of {F:Hp} {ts:List T} {vs:List V} (h:RepL K F ts vs) (e:vs = []):ts = []:=by
 have:=h.length
 subst e
 exact List.length_eq_zero_iff.mp (by simpa using this)
theorem new_lst {F H:Hp} {ts:List T} {vs:List V} {Q:VK} {p:Addr} (s:Same F H) (hp:H p = none) (r:RepL K F ts vs) (q:∀ v' H' F',Grow F H F' H' → Rep K F' (.lst ts) v' → Q v' H'):Q (.ref p) (upd H p (.lst vs)):=by
 have g:Grow F H (upd F p (.lst vs)) (upd H p (.lst vs)):=Grow.new hp
 refine q _ _ _ g ?_
 rw [Rep]
 exact ⟨p,vs,rfl,SqL.of upd_same,RepL.mono (g.same s) _ _ r⟩
theorem new_tup {F H:Hp} {ts:List T} {vs:List V} {Q:VK} {p:Addr} (s:Same F H) (hp:H p = none) (r:RepL K F ts vs) (q:∀ v' H' F',Grow F H F' H' → Rep K F' (.tup ts) v' → Q v' H'):Q (.ref p) (upd H p (.tup vs)):=by
 have g:Grow F H (upd F p (.tup vs)) (upd H p (.tup vs)):=Grow.new hp
 refine q _ _ _ g ?_
 rw [Rep]
 exact ⟨p,vs,rfl,SqT.of upd_same,RepL.mono (g.same s) _ _ r⟩
theorem rep_tup {F:Hp} {a:Addr} {ts:List T} {vs:List V} (h:SqT K F a vs) (r:RepL K F ts vs):Rep K F (.tup ts) (.ref a):=by
 rw [Rep]; exact ⟨a,vs,rfl,h,r⟩
theorem sem_add:OpSem K (fun x y H Q => (rI0 fun i j => .int (i + j)) x y H Q ∨ (fun x y H Q => ∃ i j,x = .str i ∧ y = .str j ∧ i.length + j.length ≤ sizeLine ∧ Q (.str (i ++ j)) H) x y H Q ∨ rCatTA K x y H Q ∨ rCatS K x y H Q) fAdd:=by
 intro F H v u t t' w Q s hv hu hw q
 cases t with
 | int i =>
  cases t' with
  | int j =>
   cases hw
   cases hv.int
   cases hu.int
   exact .inl ⟨i,j,rfl,rfl,q _ H F Grow.refl (Rep.int' _)⟩
  | _ => cases hw
 | str i =>
  cases t' with
  | str j =>
   have hw:(if i.length + j.length ≤ szL then some (T.str (i ++ j)) else none) = some w:=hw
   by_cases hz:i.length + j.length ≤ szL
   ·rw [if_pos hz] at hw
    cases hw
    cases hv.str
    cases hu.str
    exact .inr (.inl ⟨i,j,rfl,rfl,hz,q _ H F Grow.refl (Rep.str' _)⟩)
   ·rw [if_neg hz] at hw; cases hw
  | _ => cases hw
 | tup xs =>
  cases t' with
  | tup ys =>
   have hw:(if xs.length + ys.length ≤ szL then some (T.tup (xs ++ ys)) else none) = some w:=hw
   by_cases hz:xs.length + ys.length ≤ szL
   ·rw [if_pos hz] at hw
    cases hw
    obtain ⟨a,vs,rfl,ha,ra⟩:=hv.tup_
    obtain ⟨b,us,rfl,hb,rb⟩:=hu.tup_
    refine .inr (.inr (.inl ⟨a,b,vs,us,rfl,rfl,Same.seqT s ha,Same.seqT s hb,?_,fun e => ?_,fun e e2 => ?_,fun e e2 p hp => ?_⟩))
    ·have:=ra.length; have:=rb.length; rw [szL_eq] at hz; lia
    ·refine q _ H F Grow.refl ?_
     rw [ra.nil_of e,List.nil_append]
     exact rep_tup hb rb
    ·refine q _ H F Grow.refl ?_
     rw [rb.nil_of e2,List.append_nil]
     exact rep_tup ha ra
    ·exact new_tup s hp (ra.append rb) q
   ·rw [if_neg hz] at hw; cases hw
  | _ => cases hw
 | lst xs =>
  cases t' with
  | lst ys =>
   have hw:(if xs.length + ys.length ≤ szL then some (T.lst (xs ++ ys)) else none) = some w:=hw
   by_cases hz:xs.length + ys.length ≤ szL
   ·rw [if_pos hz] at hw
    cases hw
    obtain ⟨a,vs,rfl,ha,ra⟩:=hv.lst_
    obtain ⟨b,us,rfl,hb,rb⟩:=hu.lst_
    exact .inr (.inr (.inr ⟨a,b,vs,us,rfl,rfl,ha,hb,by have:=ra.length; have:=rb.length; rw [szL_eq] at hz; lia,fun p hp => new_lst s hp (ra.append rb) q⟩))
   ·rw [if_neg hz] at hw; cases hw
  | _ => cases hw
 | _ => cases hw
end
section
variable {X:Cx} {a b c:Expr} {da db dc:D} {pos p p2:Pos}
theorem ce_add (ha:CE X a da) (hb:CE X b db):CE X (.BinOp a .Add b pos) (dBin fAdd da db):=ce_bin (op_add.or (op_add_str.or (op_catTA.or op_catS))) sem_add ha hb
end
end Fw
namespace Fw
open PySem PySem.Spec PyProof.Rows L2
section
variable {K:PySem.W.Frag}
theorem sem_mul:OpSem K (rI CMul fun i j => .int (i * j)) fMulA:=sem_ii (fun i j => .int (i * j)) (fun i j => .int (i * j)) CMul (fun i j H Q c q => ⟨i,j,rfl,rfl,c,q⟩)
 (fun t u w h => by
  unfold fMulA at h
  cases t <;> cases u <;> first | cases h | skip
  rename_i i j
  have h:(if (-(2 ^ 64) < i ∧ i < 2 ^ 64) ∨ (-(2 ^ 64) < j ∧ j < 2 ^ 64) then some (T.int (i * j)) else none) = some w:=h
  by_cases hj:(-(2 ^ 64) < i ∧ i < 2 ^ 64) ∨ (-(2 ^ 64) < j ∧ j < 2 ^ 64)
  ·rw [if_pos hj] at h
   cases h
   exact ⟨_,_,rfl,rfl,rfl,hj⟩
  ·rw [if_neg hj] at h; cases h) fun F i j => Rep.int' _
theorem RepL.atI {F:Hp} {ts:List T} {vs:List V} {i:Int} {t:T} (h:RepL K F ts vs) (e:Fw.atI ts i = some t):∃ v,L2.atI vs i = some v ∧ Rep K F t v:=by
 have hl:=h.length
 unfold Fw.atI at e
 obtain ⟨j,h1,h2⟩:=Option.bind_eq_some_iff.mp e
 obtain ⟨v,hv,rv⟩:=h.get h2
 refine ⟨v,?_,rv⟩
 unfold L2.atI
 have:L2.ixN vs.length i = some j:=by rw [← hl]; exact h1
 rw [this]
 exact hv
theorem Paired.atI {α β:Type} {P:α → β → Prop} {xs:List α} {ys:List β} {i:Int} {y:β} (h:Paired P xs ys) (e:Fw.atI ys i = some y):∃ x,L2.atI xs i = some x ∧ P x y:=by
 have hl:=h.length
 unfold Fw.atI at e
 obtain ⟨j,h1,h2⟩:=Option.bind_eq_some_iff.mp e
 have get:∀ {xs:List α} {ys:List β} {j:Nat} {y:β},Paired P xs ys → ys[j]? = some y → ∃ x,xs[j]? = some x ∧ P x y:=by
  intro xs ys j y o
  induction o generalizing j with
  | nil => intro e; simp at e
  | cons r _ ih =>
   intro e
   cases j with
   | zero => simp at e; subst e; exact ⟨_,rfl,r⟩
   | succ j =>
    obtain ⟨v,h1,h2⟩:=ih (j:=j) (by simpa using e)
    exact ⟨v,by simpa using h1,h2⟩
 obtain ⟨v,hv,rv⟩:=get h h2
 refine ⟨v,?_,rv⟩
 unfold L2.atI
 have:L2.ixN xs.length i = some j:=by rw [hl]; exact h1
 rw [this]
 exact hv
end
section
variable {X:Cx} {a b c:Expr} {da db dc:D} {pos p p2:Pos}
theorem ce_mul (ha:CE X a da) (hb:CE X b db):CE X (.BinOp a .Mult b pos) (dBin fMulA da db):=ce_bin op_mul sem_mul ha hb
theorem ce_idx (ha:CE X a da) (hb:CE X b db) (hp:PlainIx b:=by intro _ _; rfl):CE X (.Subscript a b pos) (dIdx da db) :=
 PE.imp (pe_ix ix_seq ha hb hp) fun σ H Q hX11_ => by
  obtain ⟨F,α,e,μ,S,h⟩:=hX11_
  refine ⟨F,α,e,μ,S,?_⟩
  refine (R.wp_bind h).mono (fun x μ1 h v H1 F1 α1 x1 S1 o1 => ⟨F1,α1,e,μ1,S1,?_⟩) fun _ _ h => h
  refine (R.wp_bind h).mono (fun y μ2 h v2 H2 F2 α2 x2 S2 o2 => ?_) fun _ _ h => h.mono x1
  obtain ⟨w,h9,post⟩:=R.wp_lift h
  obtain ⟨u,hu,h⟩:=Option.bind_eq_some_iff.mp h9
  have nu:=now_of S2.st o2 hu
  have fin:∀ {v'},SvOk X.K F2 α2 v' w → Q v' H2:=fun {v'} o => post v' H2 F2 α2 (x1.trans x2) S2 o
  have o1':=o1.mono x2.same x2.pre
  have gen:∀ t,rd μ2 x = some t → ap1 (fun t => fIdx t u) (some t) = some w → rIx X.K v v2 H2 Q:=fun t hr h => by
   obtain ⟨t',w',e1,h,rfl⟩:=ap1_eq h
   cases e1
   have nt:=now_of S2.st o1' hr
   cases t with
   | lst ts =>
    cases u with
    | int i =>
     cases nu.int
     obtain ⟨a,vs,rfl,hq,hl⟩:=nt.lst_
     obtain ⟨v',g1,g2⟩:=hl.atI h
     exact .inl ⟨a,vs,i,v',rfl,rfl,hq,g1,fin g2⟩
    | _ => cases h
   | tup ts =>
    cases u with
    | int i =>
     cases nu.int
     obtain ⟨a,vs,rfl,hq,hl⟩:=nt.tup_
     obtain ⟨v',g1,g2⟩:=hl.atI h
     exact .inr (.inl ⟨a,vs,i,v',rfl,rfl,Same.seqT S2.st.ext hq,g1,fin g2⟩)
    | _ => cases h
   | str z =>
    cases u with
    | int i =>
     cases nu.int
     cases nt.str
     have h:(if z.length ≤ szL then (Fw.atI z.cps.toList i).map fun c => T.str ⟨#[c]⟩ else none) = some w':=h
     by_cases hz:z.length ≤ szL
     ·rw [if_pos hz] at h
      obtain ⟨ch,g1,rfl⟩:=Option.map_eq_some_iff.mp h
      exact .inr (.inr ⟨z,i,ch,rfl,rfl,hz,g1,fin (Rep.str' (K:=X.K) (F:=F2) _)⟩)
     ·rw [if_neg hz] at h; cases h
    | _ => cases h
   | _ => cases u <;> cases h
  cases x with
  | val t => exact gen t rfl (by unfold idxS at h; exact h)
  | cel k =>
   cases q:rd μ2 (.cel k) with
   | none => unfold idxS at h; simp only at h; rw [q] at h; cases h
   | some t => exact gen t q (by unfold idxS at h; simp only at h; rw [q] at h; exact h)
  | box xs =>
   cases u with
   | int i =>
    cases nu.int
    obtain ⟨y',h1,rfl⟩:=Option.map_eq_some_iff.mp (show (Fw.atI xs i).map pick = some w from h)
    obtain ⟨a,vs,rfl,hq,hp⟩:=o1'
    obtain ⟨v',g1,g2⟩:=Paired.atI hp h1
    refine .inr (.inl ⟨a,vs,i,v',rfl,rfl,Same.seqT S2.st.ext hq,g1,fin ?_⟩)
    cases y' with
    | inl t => exact g2
    | inr k => exact g2
   | _ => cases h
theorem ce_len (hm:X.mg "len" = none) (ha:CE X a da) (hg:Gl X "len":=by rfl) (hs1:starEach [a] X.env = (false,eval a X.env) :: starEach [] X.env:=by rfl) (hpl:(backTo pos (starEach [] X.env)).any (·.1) = false:=by rfl) :
  CE X (.Call (.Name "len" p) [a] [] pos) (dLen da) :=
 PE.imp (pe_callB (call_len_seq.or (call_len_str.or call_lenD)) hg hm PySem.boot_len (ca_cons ha ca_nil hs1) (by decide) (by decide) hs1 hpl) fun σ H Q hX11_ => by
  obtain ⟨F,α,e,μ,S,h⟩:=hX11_
  refine args1 ⟨F,α,e,μ,S,(R.wp_bind h).mono (fun x μ1 h v H1 F1 α1 x1 S1 o1 => ?_) fun _ _ h => h⟩
  obtain ⟨w,h9,post⟩:=R.wp_lift h
  obtain ⟨w',h,rfl⟩:=Option.map_eq_some_iff.mp h9
  have fin:∀ {v'},Rep X.K F1 w' v' → Q v' H1:=fun {v'} o => post v' H1 F1 α1 x1 S1 o
  have gen:∀ t,rd μ1 x = some t → fLen t = some w' → (∃ p ys,[v] = [V.ref p] ∧ (SqL X.K H1 p ys ∨ SqT X.K H1 p ys) ∧ Q (.int ys.length) H1) ∨ (∃ z,[v] = [V.str z] ∧ z.length ≤ sizeLine ∧ Q (.int z.length) H1) ∨
    ∃ d kvs,[v] = [V.ref d] ∧ H1 d = some (.dK kvs) ∧ Q (.int kvs.length) H1:=fun t hr h => by
   have nt:=now_of S1.st o1 hr
   cases t with
   | lst ts =>
    cases h
    obtain ⟨a,vs,rfl,hq,hl⟩:=nt.lst_
    exact .inl ⟨a,vs,rfl,.inl hq,fin (by rw [hl.length]; exact Rep.int' _)⟩
   | tup ts =>
    cases h
    obtain ⟨a,vs,rfl,hq,hl⟩:=nt.tup_
    exact .inl ⟨a,vs,rfl,.inr (Same.seqT S1.st.ext hq),fin (by rw [hl.length]; exact Rep.int' _)⟩
   | str z =>
    cases nt.str
    have h:(if z.length ≤ szL then some (T.int z.length) else none) = some w':=h
    by_cases hz:z.length ≤ szL
    ·rw [if_pos hz] at h
     cases h
     exact .inr (.inl ⟨z,rfl,hz,fin (Rep.int' _)⟩)
    ·rw [if_neg hz] at h; cases h
   | dct kts =>
    cases h
    obtain ⟨a,kvs,rfl,hq,hl⟩:=nt
    exact .inr (.inr ⟨a,kvs,rfl,hq,fin (by rw [hl.length]; exact Rep.int' _)⟩)
   | _ => cases h
  cases x with
  | val t => exact gen t rfl (by unfold lenS at h; exact h)
  | cel k =>
   cases q:rd μ1 (.cel k) with
   | none => unfold lenS at h; simp only at h; rw [q] at h; cases h
   | some t => exact gen t q (by unfold lenS at h; simp only at h; rw [q] at h; exact h)
  | box xs =>
   cases h
   obtain ⟨a,vs,rfl,hq,hp⟩:=o1
   exact .inl ⟨a,vs,rfl,.inr (Same.seqT S1.st.ext hq),fin (by rw [hp.length]; exact Rep.int' _)⟩
end
end Fw
namespace Fw
open PySem PySem.Spec PyProof.Rows L2
mutual
noncomputable def toPy:T → PyData
 | .non => .none
 | .bl b => .bool b
 | .int i => .int i
 | .str x => .str x
 | .lst ts => .list (toPys ts)
 | .tup ts => .tuple (toPys ts)
 | .dct _ => .dict []
 | .exc _ _ => .dict []
noncomputable def toPys:List T → List PyData
 | [] => []
 | t :: ts => toPy t :: toPys ts
end
mutual
theorem can_of:∀ (n:Nat) (t:T),okT n t = true → (toPy t).canLay0 = true ∧ (toPy t).depth ≤ n
 | n,.non,_ => ⟨by rw [toPy,PyData.canLay0],by rw [toPy,PyData.depth]; exact Nat.zero_le _⟩
 | n,.bl _,_ => ⟨by rw [toPy,PyData.canLay0],by rw [toPy,PyData.depth]; exact Nat.zero_le _⟩
 | n,.int _,_ => ⟨by rw [toPy,PyData.canLay0],by rw [toPy,PyData.depth]; exact Nat.zero_le _⟩
 | n,.str x,h => by
  unfold okT at h
  exact ⟨by rw [toPy,PyData.canLay0]; exact h,by rw [toPy,PyData.depth]; exact Nat.zero_le _⟩
 | 0,.lst ts,h => by rw [okT] at h; cases h
 | n + 1,.lst ts,h => by
  rw [okT] at h
  obtain ⟨h1,h2⟩:=cans_of n ts h
  exact ⟨by rw [toPy,PyData.canLay0]; exact h1,by rw [toPy,PyData.depth]; lia⟩
 | 0,.tup ts,h => by rw [okT] at h; cases h
 | n + 1,.tup ts,h => by
  rw [okT] at h
  obtain ⟨h1,h2⟩:=cans_of n ts h
  exact ⟨by rw [toPy,PyData.canLay0]; exact h1,by rw [toPy,PyData.depth]; lia⟩
 | n,.dct _,h => by unfold okT at h; cases h
 | n,.exc _ _,h => by unfold okT at h; cases h
theorem cans_of:∀ (n:Nat) (ts:List T),okTs n ts = true → PyData.canLayAll0 (toPys ts) = true ∧ PyData.depthAll (toPys ts) ≤ n
 | n,[],_ => ⟨by rw [toPys,PyData.canLayAll0],by rw [toPys,PyData.depthAll]; exact Nat.zero_le _⟩
 | n,t :: ts,h => by
  rw [okTs,Bool.and_eq_true] at h
  obtain ⟨h1,h2⟩:=can_of n t h.1
  obtain ⟨h3,h4⟩:=cans_of n ts h.2
  exact ⟨by rw [toPys,PyData.canLayAll0,h1,h3]; rfl,by rw [toPys,PyData.depthAll]; lia⟩
end
mutual
theorem eqv_of:∀ (n:Nat) (t u:T),okT n t = true → okT n u = true → PyData.eqv (toPy t) (toPy u) = eqT t u
 | n,.non,u,_,h => by cases u <;> first | (simp [toPy,eqT,PyData.eqv]; done) | (unfold okT at h; cases h)
 | n,.bl a,u,_,h => by cases u <;> first | (simp [toPy,eqT,PyData.eqv]; done) | (unfold okT at h; cases h)
 | n,.int a,u,_,h => by cases u <;> first | (simp [toPy,eqT,PyData.eqv]; done) | (unfold okT at h; cases h)
 | n,.str a,u,_,h => by cases u <;> first | (simp [toPy,eqT,PyData.eqv]; done) | (unfold okT at h; cases h)
 | 0,.lst a,u,h,_ => by rw [okT] at h; cases h
 | n + 1,.lst a,u,h1,h => by
  cases u with
  | lst b => rw [toPy,toPy,eqT,PyData.eqv]; rw [okT] at h1 h; exact eqvs_of n a b h1 h
  | dct _ => unfold okT at h; cases h
  | exc _ _ => unfold okT at h; cases h
  | _ => simp [toPy,eqT,PyData.eqv]
 | 0,.tup a,u,h,_ => by rw [okT] at h; cases h
 | n + 1,.tup a,u,h1,h => by
  cases u with
  | tup b => rw [toPy,toPy,eqT,PyData.eqv]; rw [okT] at h1 h; exact eqvs_of n a b h1 h
  | dct _ => unfold okT at h; cases h
  | exc _ _ => unfold okT at h; cases h
  | _ => simp [toPy,eqT,PyData.eqv]
 | n,.dct _,u,h,_ => by unfold okT at h; cases h
 | n,.exc _ _,u,h,_ => by unfold okT at h; cases h
theorem eqvs_of:∀ (n:Nat) (ts us:List T),okTs n ts = true → okTs n us = true → PyData.eqvAll (toPys ts) (toPys us) = eqTs ts us
 | n,[],[],_,_ => by rw [toPys,PyData.eqvAll,eqTs]
 | n,[],u :: us,_,_ => by rw [toPys,toPys,PyData.eqvAll,eqTs]
 | n,t :: ts,[],_,_ => by rw [toPys,toPys,PyData.eqvAll,eqTs]
 | n,t :: ts,u :: us,h1,h2 => by
  rw [okTs,Bool.and_eq_true] at h1 h2
  rw [toPys,toPys,PyData.eqvAll,eqTs,eqv_of n t u h1.1 h2.1,eqvs_of n ts us h1.2 h2.2]
end
section
variable {X:Cx} {pins:List (Addr × Obj)} {σ:L2.St} {H:Hp} {s:Shared}
mutual
theorem reads_of (I:Inv X pins σ H s):∀ (n:Nat) (t:T) (v:V) (u:Value),Rep X.K H t v → RelV v u → okT n t = true → ∃ as,Reads s.heap u (toPy t) as
 | n,.non,v,u,h,r,_ => by cases h.of_non; cases r; rw [toPy]; exact ⟨_,.none⟩
 | n,.bl b,v,u,h,r,_ => by cases h.of_bl; cases r; rw [toPy]; exact ⟨_,.bool b⟩
 | n,.int i,v,u,h,r,_ => by cases h.of_int; obtain ⟨t,rfl⟩:=r; rw [toPy]; exact ⟨_,.int i t⟩
 | n,.str i,v,u,h,r,_ => by cases h.of_str; obtain ⟨t,rfl⟩:=r; rw [toPy]; exact ⟨_,.str i t⟩
 | 0,.lst ts,v,u,h,r,ok => by rw [okT] at ok; cases ok
 | n + 1,.lst ts,v,u,h,r,ok => by
  rw [Rep] at h
  rw [okT] at ok
  obtain ⟨a,vs,rfl,hq,hl⟩:=h
  cases r
  obtain ⟨its,rv,pl,_⟩:=I.list hq
  obtain ⟨o,ho,hc,m,hd⟩:=pl.isList
  obtain ⟨as,ra⟩:=readsAll_of I n ts vs its hl rv ok
  rw [toPy]
  exact ⟨_,.list ho hc hd (by simpa using ra)⟩
 | 0,.tup ts,v,u,h,r,ok => by rw [okT] at ok; cases ok
 | n + 1,.tup ts,v,u,h,r,ok => by
  rw [Rep] at h
  rw [okT] at ok
  obtain ⟨a,vs,rfl,hq,hl⟩:=h
  cases r
  obtain ⟨its,rv,pl,_⟩:=I.tuple hq
  obtain ⟨o,ho,hc,m,hd⟩:=pl
  obtain ⟨as,ra⟩:=readsAll_of I n ts vs its hl rv ok
  rw [toPy]
  exact ⟨_,.tuple ho hc hd (by simpa using ra)⟩
 | n,.dct _,v,u,h,r,ok => by unfold okT at ok; cases ok
 | n,.exc _ _,v,u,h,r,ok => by unfold okT at ok; cases ok
theorem readsAll_of (I:Inv X pins σ H s):∀ (n:Nat) (ts:List T) (vs:List V) (us:List Value),RepL X.K H ts vs → Vals vs us → okTs n ts = true → ∃ as,ReadsAll s.heap us (toPys ts) as
 | n,[],vs,us,h,r,_ => by
  rw [RepL] at h; subst h; cases r
  rw [toPys]; exact ⟨_,.nil⟩
 | n,t :: ts,vs,us,h,r,ok => by
  rw [RepL] at h
  obtain ⟨v,vs',rfl,q,hl⟩:=h
  rw [okTs,Bool.and_eq_true] at ok
  cases r with
  | cons r1 r2 =>
   obtain ⟨as,ra⟩:=reads_of I n t v _ q r1 ok.1
   obtain ⟨bs,rb⟩:=readsAll_of I n ts vs' _ hl r2 ok.2
   rw [toPys]
   exact ⟨_,.cons ra rb⟩
end
end
theorem Now.rep {K:PySem.W.Frag} {F H:Hp} {v:V} {t:T} (s:Same F H) (h:Now K F H v t) (hx:∀ c n,t ≠ .exc c n):Rep K H t v:=by
 cases t with
 | lst ts => rw [Rep]; obtain ⟨a,vs,e,q,r⟩:=h; exact ⟨a,vs,e,q,RepL.mono s _ _ r⟩
 | tup ts => rw [Rep]; obtain ⟨a,vs,e,q,r⟩:=h; exact ⟨a,vs,e,Same.seqT s q,RepL.mono s _ _ r⟩
 | dct ts => rw [Rep]; obtain ⟨a,vs,e,q,r⟩:=h; exact ⟨a,vs,e,q,RepD.mono s _ _ r⟩
 | exc c n => exact absurd rfl (hx c n)
 | _ => exact Rep.mono s _ _ h
noncomputable def rEqT (K:PySem.W.Frag) (neg:Bool):R2:=fun x y H Q => ∃ t u,Rep K H t x ∧ Rep K H u y ∧ okT 100 t = true ∧ okT 100 u = true ∧ Q (.bl (if neg then !eqT t u else eqT t u)) H
section
variable {X:Cx} {a b c:Expr} {da db dc:D} {pos p p2:Pos} {k:Nat}
theorem op_eqT (hr:Room k X.A):OpR X (compareOp .Eq) (rEqT X.K false):=by
 intro pins s σ H x y v u Q I rx ry h
 obtain ⟨t,t',h1,h2,o1,o2,q⟩:=h
 obtain ⟨as,r1⟩:=reads_of I 100 t x v h1 rx o1
 obtain ⟨bs,r2⟩:=reads_of I 100 t' y u h2 ry o2
 obtain ⟨c1,d1⟩:=can_of 100 t o1
 obtain ⟨c2,d2⟩:=can_of 100 t' o2
 refine SeqAt.compareEq_reads r1 r2 c1 c2 (by have:=hr.un; lia) ⟨.bl _,H,I,rfl,?_⟩
 rw [eqv_of 100 t t' o1 o2]
 exact q
theorem op_neT (hr:Room k X.A):OpR X (compareOp .NotEq) (rEqT X.K true):=by
 intro pins s σ H x y v u Q I rx ry h
 obtain ⟨t,t',h1,h2,o1,o2,q⟩:=h
 obtain ⟨as,r1⟩:=reads_of I 100 t x v h1 rx o1
 obtain ⟨bs,r2⟩:=reads_of I 100 t' y u h2 ry o2
 obtain ⟨c1,d1⟩:=can_of 100 t o1
 obtain ⟨c2,d2⟩:=can_of 100 t' o2
 refine SeqAt.compareNe_reads r1 r2 c1 c2 (by have:=hr.un; lia) ⟨.bl _,H,I,rfl,?_⟩
 rw [eqv_of 100 t t' o1 o2]
 exact q
theorem ok_noexc {n:Nat} {t:T} (h:okT n t = true):∀ c m,t ≠ .exc c m:=fun c m e => by subst e; unfold okT at h; cases h
theorem sem_eq {K:PySem.W.Frag}:OpSem K (fun x y H Q => rEqT K false x y H Q ∨ rEq x y H Q) fEq:=by
 intro F H v u t t' w Q s hv hu hw q
 by_cases hs:∃ a b,t = .str a ∧ t' = .str b
 ·obtain ⟨a,b,rfl,rfl⟩:=hs
  cases hw
  cases hv.str
  cases hu.str
  refine .inr ⟨rfl,?_⟩
  have e:decide (V.str a = V.str b) = (a == b):=dec_str
  rw [e]
  exact q _ H F Grow.refl (Rep.bl' _)
 ·have hw:(if okT 100 t = true ∧ okT 100 t' = true then some (T.bl (eqT t t')) else none) = some w:=by
   unfold fEq at hw
   split at hw
   ·exact absurd ⟨_,_,rfl,rfl⟩ hs
   ·exact hw
  by_cases ho:okT 100 t = true ∧ okT 100 t' = true
  ·rw [if_pos ho] at hw
   cases hw
   exact .inl ⟨t,t',hv.rep s (ok_noexc ho.1),hu.rep s (ok_noexc ho.2),ho.1,ho.2,q _ H F Grow.refl (Rep.bl' _)⟩
  ·rw [if_neg ho] at hw; cases hw
theorem sem_ne {K:PySem.W.Frag}:OpSem K (fun x y H Q => rEqT K true x y H Q ∨ rNe x y H Q) fNe:=by
 intro F H v u t t' w Q s hv hu hw q
 by_cases hs:∃ a b,t = .str a ∧ t' = .str b
 ·obtain ⟨a,b,rfl,rfl⟩:=hs
  cases hw
  cases hv.str
  cases hu.str
  refine .inr ⟨rfl,?_⟩
  have e:decide (V.str a = V.str b) = (a == b):=dec_str
  rw [e]
  exact q _ H F Grow.refl (Rep.bl' _)
 ·have hw:(if okT 100 t = true ∧ okT 100 t' = true then some (T.bl (!eqT t t')) else none) = some w:=by
   unfold fNe at hw
   split at hw
   ·exact absurd ⟨_,_,rfl,rfl⟩ hs
   ·exact hw
  by_cases ho:okT 100 t = true ∧ okT 100 t' = true
  ·rw [if_pos ho] at hw
   cases hw
   exact .inl ⟨t,t',hv.rep s (ok_noexc ho.1),hu.rep s (ok_noexc ho.2),ho.1,ho.2,q _ H F Grow.refl (Rep.bl' _)⟩
  ·rw [if_neg ho] at hw; cases hw
theorem ce_eq (hr:Room k X.A) (ha:CE X a da) (hb:CE X b db):CE X (.Compare a [.Eq] [b] pos) (dBin fEq da db):=ce_cmp ((op_eqT hr).or op_eq) sem_eq (nomark _) ha hb
theorem ce_ne (hr:Room k X.A) (ha:CE X a da) (hb:CE X b db):CE X (.Compare a [.NotEq] [b] pos) (dBin fNe da db):=ce_cmp ((op_neT hr).or op_ne) sem_ne (nomark _) ha hb
theorem ct_eq (hr:Room k X.A) (ha:CE X a da) (hb:CE X b db):CT X (.Compare a [.Eq] [b] pos) (dBin fEq da db):=ct_cmp ((op_eqT hr).or op_eq) sem_eq (nomark _) ha hb
theorem ct_ne (hr:Room k X.A) (ha:CE X a da) (hb:CE X b db):CT X (.Compare a [.NotEq] [b] pos) (dBin fNe da db):=ct_cmp ((op_neT hr).or op_ne) sem_ne (nomark _) ha hb
noncomputable def TyN (K:PySem.W.Frag) (H:Hp) (v:V) (ty:String):Prop:=match v with
 | .non => ty = "NoneType"
 | .bl _ => ty = "bool"
 | .int _ => ty = "int"
 | .str _ => ty = "str"
 | .ref a => (ty = "list" ∧ ∃ xs,SqL K H a xs) ∨ (ty = "tuple" ∧ ∃ xs,SqT K H a xs) ∨ (ty = "dict" ∧ ∃ kvs,H a = some (.dK kvs))
 | _ => False
theorem call_isT {cn:String}:CallR X (.builtin "isinstance") (fun xs H Q => ∃ v ty r,xs = [v,.ty cn] ∧ TyN X.K H v ty ∧ PySem.W.kitOne X.K (.type ty) (.type cn) = some r ∧ Q (.bl r) H):=by
 intro pins s σ H xs us Q I r h
 obtain ⟨v,ty,b,rfl,hty,e,q⟩:=h
 obtain ⟨u1,u2,rfl,r1,r2⟩:=vals2 r
 have r2:u2 = Value.type cn:=r2
 subst r2
 have fin:∀ tk,EP X pins σ Q (.bool b) { s with toks:=tk }:=fun tk => ⟨.bl b,H,I.tok _,rfl,q⟩
 cases v with
 | non => cases (show u1 = Value.none from r1); cases hty; exact PySem.W.kia_one PySem.W.kitx_none I.kIn True.intro e (fun z => nomatch z) fin
 | bl y => cases (show u1 = Value.bool y from r1); cases hty; exact PySem.W.kia_one PySem.W.kitx_bool I.kIn True.intro e (fun z => nomatch z) fin
 | int i => obtain ⟨t,q⟩:=(show ∃ t,u1 = Value.int i t from r1); cases q; cases hty; exact PySem.W.kia_one PySem.W.kitx_int I.kIn True.intro e (fun z => nomatch z) fin
 | str y => obtain ⟨t,q⟩:=(show ∃ t,u1 = Value.str y t from r1); cases q; cases hty; exact PySem.W.kia_one PySem.W.kitx_str I.kIn True.intro e (fun z => nomatch z) fin
 | ref a =>
  cases (show u1 = Value.ref a from r1)
  rcases hty with ⟨rfl,xs,hq⟩ | ⟨rfl,xs,hq⟩ | ⟨rfl,kvs,hq⟩
  ·obtain ⟨its,_,pl,_⟩:=I.list hq
   obtain ⟨o,ho,hc,_⟩:=pl.isList
   exact PySem.W.kia_one PySem.W.kitx_list I.kIn ⟨o,ho,hc⟩ e (fun z => nomatch z) fin
  ·obtain ⟨its,_,pl,_⟩:=I.tuple hq
   obtain ⟨o,ho,hc,_⟩:=pl
   exact PySem.W.kia_one PySem.W.kitx_tuple I.kIn ⟨o,ho,hc⟩ e (fun z => nomatch z) fin
  ·obtain ⟨_,_,vs,_,pz⟩:=(show ObjOk X.prog X.w H s.heap a (.dK kvs) from I.hok a _ hq)
   obtain ⟨o,es,h1,h2,_⟩:=pz
   exact PySem.W.kia_one PySem.W.kitx_dict I.kIn ⟨o,h1,h2.1⟩ e (fun z => nomatch z) fin
 | _ => exact hty.elim
noncomputable def Kd.name:Kd → String
 | .int => "int"
 | .bool => "bool"
 | .str => "str"
 | .list => "list"
 | .tuple => "tuple"
 | .dict => "dict"
noncomputable def kdT:T → String
 | .non => "NoneType"
 | .bl _ => "bool"
 | .int _ => "int"
 | .str _ => "str"
 | .lst _ => "list"
 | .tup _ => "tuple"
 | .dct _ => "dict"
 | .exc _ _ => ""
noncomputable def kitB (x y:String):Option Bool:=if (Value.type x == Value.type y) = true then some true else if PySem.W.kitMeta y = true then (PySem.fastBuiltinMro x).map (·.contains (Value.type y)) else none
noncomputable def kitTbl (x y:String):Bool:=x == y || (x == "bool" && y == "int")
theorem kitB_all:∀ x ∈ ["NoneType","bool","int","str","list","tuple","dict"],∀ y ∈ ["int","bool","str","list","tuple","dict"],kitB x y = some (kitTbl x y):=by decide +kernel
theorem kit_all {K:PySem.W.Frag} (kd:Kd) (t:T) (hx:∀ c n,t ≠ .exc c n):PySem.W.kitOne K (.type (kdT t)) (.type kd.name) = some (isK kd t):=by
 have e:PySem.W.kitOne K (.type (kdT t)) (.type kd.name) = kitB (kdT t) kd.name:=rfl
 have h1:kdT t ∈ ["NoneType","bool","int","str","list","tuple","dict"]:=by cases t <;> first | exact absurd rfl (hx _ _) | simp [kdT]
 have h2:kd.name ∈ ["int","bool","str","list","tuple","dict"]:=by cases kd <;> simp [Kd.name]
 have h3:kitTbl (kdT t) kd.name = isK kd t:=by cases kd <;> cases t <;> first | exact absurd rfl (hx _ _) | rfl
 rw [e,kitB_all _ h1 _ h2,h3]
theorem ce_isK (kd:Kd) {cn:Str} (hm:X.mg "isinstance" = none) (hm2:X.mg cn = none) (hv2:bootBuiltins cn = some (.type kd.name)) (ha:CE X a da) (hn2:cn ≠ "__name__") (hd2:(cn == ("__debug__":Str)) = false) (hg:Gl X "isinstance":=by rfl) (hg2:Gl X cn:=by rfl)
  (hs1:starEach [a,.Name cn p2] X.env = (false,eval a X.env) :: starEach [.Name cn p2] X.env:=by rfl) (hs2:starEach [.Name cn p2] X.env = (false,eval (.Name cn p2) X.env) :: starEach [] X.env:=by rfl) (hpl:(backTo pos (starEach [.Name cn p2] X.env)).any (·.1) = false:=by rfl) :
  CE X (.Call (.Name "isinstance" p) [a,.Name cn p2] [] pos) (dIs kd da) :=
 PE.imp (pe_callB call_isT hg hm (by decide +kernel) (pa_cons ha (pa_cons (pe_bltn (v:=.ty kd.name) hg2 hm2 hv2 rfl hn2 hd2) pa_nil hs2) hs1) (by decide) (by decide) hs1 hpl) fun σ H Q hX11_ => by
  obtain ⟨F,α,e,μ,S,h⟩:=hX11_
  refine ⟨F,α,e,μ,S,(R.wp_bind h).mono (fun x μ1 h v H1 F1 α1 x1 S1 o1 => ?_) fun _ _ h => h⟩
  obtain ⟨w,h9,post⟩:=R.wp_lift h
  obtain ⟨w',h,rfl⟩:=Option.map_eq_some_iff.mp h9
  have fin:∀ {v'},Rep X.K F1 w' v' → Q v' H1:=fun {v'} o => post v' H1 F1 α1 x1 S1 o
  have gen:∀ t,rd μ1 x = some t → isT kd t = some w' → ∃ v' ty r,[v,V.ty kd.name] = [v',.ty kd.name] ∧ TyN X.K H1 v' ty ∧ PySem.W.kitOne X.K (.type ty) (.type kd.name) = some r ∧ Q (.bl r) H1:=fun t hr h => by
   have nt:=now_of S1.st o1 hr
   have hx:∀ c n,t ≠ .exc c n:=fun c n z => by subst z; cases h
   have ew:w' = .bl (isK kd t):=by
    cases t <;> first | exact (Option.some.inj h).symm | cases h
   subst ew
   refine ⟨v,kdT t,_,rfl,?_,kit_all kd t hx,fin (Rep.bl' _)⟩
   cases t with
   | non => rw [show v = .non from Rep.of_non (K:=X.K) (F:=F1) nt]; rfl
   | bl b => rw [nt.bl]; rfl
   | int b => rw [nt.int]; rfl
   | str b => rw [nt.str]; rfl
   | lst ts => obtain ⟨a,vs,rfl,hq,_⟩:=nt.lst_; exact .inl ⟨rfl,vs,hq⟩
   | tup ts => obtain ⟨a,vs,rfl,hq,_⟩:=nt.tup_; exact .inr (.inl ⟨rfl,vs,Same.seqT S1.st.ext hq⟩)
   | dct ts => obtain ⟨a,vs,rfl,hq,_⟩:=nt; exact .inr (.inr ⟨rfl,vs,hq⟩)
   | exc c n => exact absurd rfl (hx c n)
  cases x with
  | val t => exact gen t rfl h
  | cel j =>
   cases q:rd μ1 (.cel j) with
   | none => rw [isS_cel,q] at h; cases h
   | some t => exact gen t q (by rw [isS_cel,q] at h; exact h)
  | box xs =>
   cases h
   obtain ⟨a,vs,rfl,hq,_⟩:=o1
   exact ⟨_,"tuple",_,rfl,.inr (.inl ⟨rfl,vs,Same.seqT S1.st.ext hq⟩),kit_all kd (.tup []) (fun c n z => by cases z),fin (Rep.bl' _)⟩
theorem ce_is_int (hm:X.mg "isinstance" = none) (hm2:X.mg "int" = none) (ha:CE X a da) (hg:Gl X "isinstance":=by rfl) (hg2:Gl X "int":=by rfl)
  (hs1:starEach [a,.Name "int" p2] X.env = (false,eval a X.env) :: starEach [.Name "int" p2] X.env:=by rfl) (hs2:starEach [.Name "int" p2] X.env = (false,eval (.Name "int" p2) X.env) :: starEach [] X.env:=by rfl) (hpl:(backTo pos (starEach [.Name "int" p2] X.env)).any (·.1) = false:=by rfl) :
  CE X (.Call (.Name "isinstance" p) [a,.Name "int" p2] [] pos) (dIs .int da):=ce_isK .int hm hm2 (by decide +kernel) ha (by decide +kernel) (by decide +kernel) hg hg2 hs1 hs2 hpl
theorem ce_is_bool (hm:X.mg "isinstance" = none) (hm2:X.mg "bool" = none) (ha:CE X a da) (hg:Gl X "isinstance":=by rfl) (hg2:Gl X "bool":=by rfl)
  (hs1:starEach [a,.Name "bool" p2] X.env = (false,eval a X.env) :: starEach [.Name "bool" p2] X.env:=by rfl) (hs2:starEach [.Name "bool" p2] X.env = (false,eval (.Name "bool" p2) X.env) :: starEach [] X.env:=by rfl) (hpl:(backTo pos (starEach [.Name "bool" p2] X.env)).any (·.1) = false:=by rfl) :
  CE X (.Call (.Name "isinstance" p) [a,.Name "bool" p2] [] pos) (dIs .bool da):=ce_isK .bool hm hm2 (by decide +kernel) ha (by decide +kernel) (by decide +kernel) hg hg2 hs1 hs2 hpl
theorem ce_is_str (hm:X.mg "isinstance" = none) (hm2:X.mg "str" = none) (ha:CE X a da) (hg:Gl X "isinstance":=by rfl) (hg2:Gl X "str":=by rfl)
  (hs1:starEach [a,.Name "str" p2] X.env = (false,eval a X.env) :: starEach [.Name "str" p2] X.env:=by rfl) (hs2:starEach [.Name "str" p2] X.env = (false,eval (.Name "str" p2) X.env) :: starEach [] X.env:=by rfl) (hpl:(backTo pos (starEach [.Name "str" p2] X.env)).any (·.1) = false:=by rfl) :
  CE X (.Call (.Name "isinstance" p) [a,.Name "str" p2] [] pos) (dIs .str da):=ce_isK .str hm hm2 (by decide +kernel) ha (by decide +kernel) (by decide +kernel) hg hg2 hs1 hs2 hpl
theorem ce_is_tuple (hm:X.mg "isinstance" = none) (hm2:X.mg "tuple" = none) (ha:CE X a da) (hg:Gl X "isinstance":=by rfl) (hg2:Gl X "tuple":=by rfl)
  (hs1:starEach [a,.Name "tuple" p2] X.env = (false,eval a X.env) :: starEach [.Name "tuple" p2] X.env:=by rfl) (hs2:starEach [.Name "tuple" p2] X.env = (false,eval (.Name "tuple" p2) X.env) :: starEach [] X.env:=by rfl) (hpl:(backTo pos (starEach [.Name "tuple" p2] X.env)).any (·.1) = false:=by rfl) :
  CE X (.Call (.Name "isinstance" p) [a,.Name "tuple" p2] [] pos) (dIs .tuple da):=ce_isK .tuple hm hm2 (by decide +kernel) ha (by decide +kernel) (by decide +kernel) hg hg2 hs1 hs2 hpl
end
end Fw
namespace Fw
open PySem PySem.Spec PyProof.Rows L2
theorem asBls_eq:∀ {ts:List T} {bs:List Bool},asBls ts = some bs → ts = bs.map T.bl
 | [],bs,h => by cases h; rfl
 | t :: ts,bs,h => by
  cases t with
  | bl b =>
   obtain ⟨cs,h1,rfl⟩:=Option.map_eq_some_iff.mp (show (asBls ts).map (fun bs => b :: bs) = some bs from h)
   rw [asBls_eq h1]; rfl
  | _ => cases h
theorem RepL.bls {K:PySem.W.Frag} {F:Hp}:∀ {bs:List Bool} {vs:List V},RepL K F (bs.map T.bl) vs → vs = bs.map V.bl
 | [],vs,h => by rw [List.map_nil,RepL] at h; exact h
 | b :: bs,vs,h => by
  rw [List.map_cons,RepL] at h
  obtain ⟨v,vs',rfl,q,r⟩:=h
  rw [r.bls,q.of_bl]; rfl
theorem vals_bls:∀ {bs:List Bool} {us:List Value},Vals (bs.map V.bl) us → us = bs.map Value.bool
 | [],us,h => by cases h; rfl
 | b :: bs,us,h => by
  rw [List.map_cons] at h
  cases h with
  | cons r h => rw [vals_bls h,show _ = Value.bool b from r]; rfl
section
variable {X:Cx} {a b c:Expr} {da db dc:D} {pos p p2:Pos} {k:Nat}
theorem iter_list {prog:Program} {w:World} {A:Around} {E:Value → Shared → Prop} {s:Shared} {l:Addr} {its:Array Value} {Q:Value → Shared → Prop} (hl:s.heap.IsList l its)
  (h:∀ s₂:Shared,s₂ = { s with heap:=s.heap.push { cls:=.type "list_iterator",data:=.fields #[.ref l,.int 0 0] } } → (s₂.heap.IsListIter s.heap.objs.size l 0 ∧ s₂.heap.IsList l its) → l ≠ s.heap.objs.size → Q (.ref s.heap.objs.size) s₂) :
  wpAny (model prog w) A (pyIter (.ref l)) Q E s:=by
 have hlt:l < s.heap.objs.size:=by obtain ⟨_,e,_⟩:=hl; exact Heap.lt_size e
 exact wpAny_pyIter_list hl (h _ rfl ⟨⟨_,Heap.get?_push_size _ rfl,rfl,rfl⟩,hl.push _⟩ (Nat.ne_of_lt hlt))
theorem range_all (bs:List Bool):(List.range bs.length).all (fun i => bs.getD i true) = bs.all id:=by
 rw [Bool.eq_iff_iff,List.all_eq_true,List.all_eq_true]
 constructor
 ·intro h x hx
  obtain ⟨i,hi⟩:=List.mem_iff_getElem?.mp hx
  have hl:i < bs.length:=(List.getElem?_eq_some_iff.mp hi).1
  have:=h i (List.mem_range.mpr hl)
  rw [List.getD_eq_getElem?_getD,hi] at this
  exact this
 ·intro h i hi
  have hl:i < bs.length:=List.mem_range.mp hi
  rw [List.getD_eq_getElem?_getD,List.getElem?_eq_getElem hl]
  exact h _ (List.getElem_mem hl)
theorem truth_bls {prog:Program} {w:World} {A:Around} (bs:List Bool):TruthOf prog w A (fun i v => ((bs.map Value.bool).toArray)[i]? = some v) (fun i => bs.getD i true):=by
 intro i v s Q E hP hQ
 have hP:(bs.map Value.bool)[i]? = some v:=by simpa using hP
 rw [List.getElem?_map] at hP
 cases q:bs[i]? with
 | none => rw [q] at hP; cases hP
 | some y =>
  rw [q] at hP
  cases hP
  have hQ:Q (bs.getD i true) s:=hQ
  rw [List.getD_eq_getElem?_getD,q] at hQ
  exact wpAny_truthy_bool hQ
theorem call_allB (hr:Room k X.A):CallR X (.builtin "all") (fun xs H Q => ∃ (p:Addr) (bs:List Bool),xs = [.ref p] ∧ SqL X.K H p (bs.map V.bl) ∧ Q (.bl (bs.all id)) H):=by
 intro pins s σ H xs us Q I r h
 obtain ⟨p,bs,rfl,hq,q⟩:=h
 obtain ⟨u,rfl,ru⟩:=vals1 r
 cases ru
 obtain ⟨its,rv,pl,hz⟩:=I.list hq
 cases vals_bls rv
 refine call_all_walk (iter_list pl.isList fun s₂ e st hne => ?_)
 subst e
 refine ⟨_,_,_,_,_,_,_,rfl,Walks.list (A:=X.A.in1) hr.hd _ p hne _,st,truth_bls bs,fun h' tk hk => ?_⟩
 rw [List.size_toArray,List.length_map,range_all]
 exact ⟨.bl _,H,I.kept (t':=tk) (old_kept hk),rfl,q⟩
theorem ce_all (hr:Room k X.A) (hm:X.mg "all" = none) (ha:CE X a da) (hg:Gl X "all":=by rfl) (hs1:starEach [a] X.env = (false,eval a X.env) :: starEach [] X.env:=by rfl) (hpl:(backTo pos (starEach [] X.env)).any (·.1) = false:=by rfl) :
  CE X (.Call (.Name "all" p) [a] [] pos) (dUn fAll da):=ce_blt1 (call_allB hr) (by
 intro F H v t w Q s hv hw q
 cases t with
 | lst ts =>
  obtain ⟨bs,h1,rfl⟩:=Option.map_eq_some_iff.mp (show (asBls ts).map _ = some w from hw)
  obtain ⟨a,vs,rfl,hq,hl⟩:=hv.lst_
  rw [asBls_eq h1] at hl
  rw [hl.bls] at hq
  exact ⟨a,bs,rfl,hq,q _ H F Grow.refl (Rep.bl' _)⟩
 | _ => cases hw) hm (by decide +kernel) ha hg (by decide) (by decide) hs1 hpl
theorem ce_tuple (hm:X.mg "tuple" = none) (ha:CE X a da) (hg:Gl X "tuple":=by rfl) (hs1:starEach [a] X.env = (false,eval a X.env) :: starEach [] X.env:=by rfl) (hpl:(backTo pos (starEach [] X.env)).any (·.1) = false:=by rfl) :
  CE X (.Call (.Name "tuple" p) [a] [] pos) (dUn fTuple da):=ce_ty1 call_tuple_of (by
 intro F H v t w Q s hv hw q
 cases t with
 | lst ts =>
  cases hw
  obtain ⟨a,vs,rfl,hq,hl⟩:=hv.lst_
  exact ⟨a,vs,rfl,.inl ⟨hq,fun l hp => new_tup s hp hl q⟩⟩
 | tup ts =>
  cases hw
  obtain ⟨a,vs,rfl,hq,hl⟩:=hv.tup_
  exact ⟨a,vs,rfl,.inr ⟨Same.seqT s hq,q _ H F Grow.refl (rep_tup hq hl)⟩⟩
 | _ => cases hw) hm (by decide +kernel) ha hg (by decide) (by decide) hs1 hpl
theorem cf_list (hm:X.mg "list" = none) (ha:CE X a da) (hg:Gl X "list":=by rfl) (hs1:starEach [a] X.env = (false,eval a X.env) :: starEach [] X.env:=by rfl) (hpl:(backTo pos (starEach [] X.env)).any (·.1) = false:=by rfl) :
  CF X (.Call (.Name "list" p) [a] [] pos) (dUn fList da):=cf_ty1 call_list_of (by
 intro F H v t w Q s hv hw q
 cases t with
 | lst ts =>
  cases hw
  obtain ⟨a,vs,rfl,hq,hl⟩:=hv.lst_
  exact ⟨a,vs,rfl,.inl hq,fun l hp => q l _ hp ⟨vs,upd_same,hl⟩⟩
 | tup ts =>
  cases hw
  obtain ⟨a,vs,rfl,hq,hl⟩:=hv.tup_
  exact ⟨a,vs,rfl,.inr (Same.seqT s hq),fun l hp => q l _ hp ⟨vs,upd_same,hl⟩⟩
 | _ => cases hw) hm (by decide +kernel) ha hg (by decide) (by decide) hs1 hpl
theorem cs_append {o e1:Expr} {do_ de:D} {apos cpos:Pos} (ho:CE X o do_) (he:CE X e1 de) (hbase:attributeBase o "append" X.env (eval o X.env) = eval o X.env:=by rfl)
  (hfew:((backTo cpos (starEach [e1] X.env)).all (fun x => !x.1) && (backToKw cpos (keywordEach [] X.env)).all (fun x => x.1.isSome) && decide (([e1]:List Expr).length + ([]:List Keyword).length + (if ([]:List Keyword).isEmpty then 0 else 1) < 30)) = true:=by rfl)
  (hline:(apos.endLine == cpos.line) = true:=by rfl) (hs1:starEach [e1] X.env = (false,eval e1 X.env) :: starEach [] X.env:=by rfl) (hpl:(backTo cpos (starEach [] X.env)).any (·.1) = false:=by rfl)
  (hs:swapsWith (.Call (.Attribute o "append" apos) [e1] [] cpos) none pos.line X.env = pure false:=by rfl) :
  CS X (.Expr (.Call (.Attribute o "append" apos) [e1] [] cpos) pos) (sAppend do_ de) :=
 PS.imp (ps_expr (pe_bm PySem.F.plainAttrs_list PySem.F.slot_list_append PySem.F.type_list_append mt_append ho (ca_cons he ca_nil hs1) hbase hfew hline hs1 hpl) hs) fun D σ H hX11_ => by
  obtain ⟨F,α,e,μ,S,h⟩:=hX11_
  refine ⟨F,α,e,μ,S,(PostS.toS h).mono (fun x μ1 h v H1 F1 α1 x1 S1 o1 => ?_) fun _ _ h => h⟩
  obtain ⟨_,hl,h⟩:=h.lift
  cases x with
  | cel j =>
   obtain ⟨ad,ha,rfl⟩:=o1
   have hc:∃ bb ts,μ1[j]? = some (bb,.lst ts):=by
    unfold lsts at hl
    simp only at hl
    split at hl
    ·exact ⟨_,_,by assumption⟩
    ·cases hl
   obtain ⟨bb,ts,hj⟩:=hc
   have n1:=now_of S1.st (x:=.cel j) (t:=.lst ts) ⟨ad,ha,rfl⟩ (by rw [rd_cel,hj]; rfl)
   obtain ⟨a',vs,e1,hq,_⟩:=n1.lst_
   cases e1
   refine ⟨.inl ⟨rfl,vs,hq⟩,args1 ⟨F1,α1,e,μ1,S1,(PostS.toS h).mono (fun y μ2 h v2 H2 F2 α2 x2 S2 o2 => ?_) fun _ _ h => h.mono x1⟩⟩
   have h:=h.toS
   cases hz:frz y μ2 with
   | err c μ3 => exact absurd hz (frz_no y μ2 c μ3)
   | bad => rw [hz] at h; exact h.elim
   | ok t μ3 =>
    rw [hz] at h
    obtain ⟨μ4,ha4,h⟩:=PostS.lift h
    obtain ⟨F3,s3,n3,S3,r3⟩:=frz_ok S2.st o2 hz
    unfold appendAt at ha4
    simp only at ha4
    have hc:∃ us,μ3[j]? = some (true,.lst us) ∧ us.length < szL ∧ μ4 = μ3.set j (true,.lst (us ++ [t])):=by
     split at ha4
     ·rename_i us hjs
      by_cases hu:us.length < szL
      ·rw [if_pos hu] at ha4
       cases ha4
       exact ⟨us,hjs,hu,rfl⟩
      ·rw [if_neg hu] at ha4; cases ha4
     ·cases ha4
    obtain ⟨us,hj3,hu,rfl⟩:=hc
    have ha3:α2[j]? = some ad:=pre_get x2.pre ha
    obtain ⟨_,ws,hw,rw'⟩:=(S3.cell j true _ ad hj3 ha3).1 rfl
    have el:=rw'.length
    refine ⟨ad,ws,v2,rfl,rfl,hw,by rw [szL_eq] at hu; omega,?_⟩
    have x3:Ex F α H F3 α2 H2:=x1.trans (x2.trans (Ex.of_ne s3 n3))
    exact h σ _ F3 α2 (x3.trans (Ex.put ha3)) ((S2.of s3 (List.prefix_refl _) S3).of (Same.refl _) (List.prefix_refl _) (put_ok S3 hj3 ha3 ⟨_,upd_same,rw'.append (RepL.one r3)⟩))
  | val t => cases hl
  | box xs => cases hl
end
end Fw
namespace Fw
open PySem L2 PyProof.Rows
end Fw
namespace L2
open PySem PySem.Spec PyProof.Rows
noncomputable def KIt (k:Bool) (h:Heap) (i l:Addr) (n:Nat):Prop:=match k with
 | true => h.IsListIter i l n
 | false => h.IsTupleIter i l n
noncomputable def KSq (k:Bool) (h:Heap) (l:Addr) (xs:Array Value):Prop:=match k with
 | true => h.IsList l xs
 | false => h.IsTuple l xs
theorem KIt.at {k:Bool} {h h':Heap} {i l:Addr} {n:Nat} (x:KIt k h i l n) (e:∀ o,h.get? i = some o → h'.get? i = some o):KIt k h' i l n:=by
 cases k with
 | true => exact Heap.IsListIter.at x e
 | false => exact Heap.IsTupleIter.at x e
theorem KSq.at {k:Bool} {h h':Heap} {l:Addr} {xs:Array Value} (x:KSq k h l xs) (e:∀ o,h.get? l = some o → h'.get? l = some o):KSq k h' l xs:=by
 cases k with
 | true => exact Heap.IsList.at x e
 | false => exact Heap.IsTuple.at x e
theorem KIt.ob {k:Bool} {h:Heap} {i l:Addr} {n:Nat} (x:KIt k h i l n):∃ o,h.get? i = some o ∧ o.data = .fields #[.ref l,.int n 0]:=by
 cases k with
 | true => obtain ⟨o,a,_,b⟩:=x; exact ⟨o,a,b⟩
 | false => obtain ⟨o,a,_,b⟩:=x; exact ⟨o,a,b⟩
noncomputable def itRec (k:Bool) (l:Addr):Obj:={ cls:=.type (if k then "list_iterator" else "tuple_iterator"),data:=.fields #[.ref l,.int 0 0] }
end L2
namespace L2
open PySem PySem.Spec PyProof.Rows
noncomputable def KSqV (K:PySem.W.Frag) (k:Bool) (H:Hp) (a:Addr) (xs:List V):Prop:=match k with
 | true => SqL K H a xs
 | false => SqT K H a xs
theorem ksqv_own {X:Cx} {pins:List (Addr × Obj)} {σ:L2.St} {H:Hp} {s:Shared} {k:Bool} {a c:Addr} {xs:List V} (I:Inv X pins σ H s) (h:KSqV X.K k H a xs) (hf:FpOk X pins H c):a ≠ c:=fun e => by
 subst e
 have key:∀ o,X.K.lookup a = some o → False:=fun o hk => by
  have hb:=I.ok.mod.kin a o hk
  rcases hf.2.2.2.1 with z | z
  ·exact I.ok.noex a o hb z
  ·exact absurd (Nat.lt_of_lt_of_le (Heap.lt_size hb) (Nat.le_trans I.ok.bsz z)) (Nat.lt_irrefl _)
 cases k with
 | true =>
  rcases h with (h | ⟨o,h⟩) | ⟨o,its,n,hk,_⟩
  ·rw [hf.1] at h; cases h
  ·rw [hf.1] at h; cases h
  ·exact key o hk
 | false =>
  rcases h with (h | ⟨o,h⟩) | ⟨o,its,n,hk,_⟩
  ·rw [hf.1] at h; cases h
  ·rw [hf.1] at h; cases h
  ·exact key o hk
end L2
namespace Fw
open PySem PySem.Spec PyProof.Rows L2
noncomputable def tDO (X:Cx) (o:Option D):TO:=fun σ H Q => ∃ F α e μ,Sim X.K F α e μ σ H ∧ (dOpt o e μ).wp (fun i μ' => ∀ H' F' α',Ex F α H F' α' H' → Sim X.K F' α' e μ' σ H' → Q i H') (XPost X F α H e)
noncomputable def CO (X:Cx) (e:Option Expr) (o:Option D):Prop:=PO X e (tDO X o)
theorem PO.imp {X:Cx} {e:Option Expr} {t t':TO} (h:PO X e t) (i:∀ σ H Q,t' σ H Q → t σ H Q):PO X e t':=fun pins s σ H Q I q => h pins s σ H Q I (i σ H Q q)
section
variable {X:Cx} {a b:Expr} {da db:D} {pos p2:Pos}
theorem co_none:CO X none none:=PO.imp po_none fun σ H Q ⟨F,α,e,μ,S,h⟩ => h H F α Ex.refl S
theorem co_some (h:CE X a da):CO X (some a) (some da):=PO.imp (po_some h) fun σ H Q hX11_ => by
 obtain ⟨F,α,e,μ,S,h⟩:=hX11_
 refine ⟨F,α,e,μ,S,(R.wp_bind h).mono (fun x μ1 h v H1 F1 α1 x1 S1 o1 => ?_) fun _ _ h => h⟩
 obtain ⟨i,hi,h⟩:=R.wp_lift (R.wp_bind h)
 obtain ⟨t,hr,ht⟩:=Option.bind_eq_some_iff.mp hi
 cases asInt_eq ht
 cases (now_of S1.st o1 hr).int
 exact ⟨i,rfl,h H1 F1 α1 x1 S1⟩
theorem RepL.cut {K:PySem.W.Frag} {F:Hp} {ts:List T} {vs:List V} (h:RepL K F ts vs) (lo hi:Option Int):RepL K F (cutT ts lo hi) (cutV vs lo hi):=by
 have e:∀ d o,Fw.sIx ts.length d o = HT.sIx vs.length d o:=fun d o => by rw [h.length]; cases o <;> rfl
 unfold cutT cutV
 rw [e,e,h.length]
 exact (h.drop _).take _
theorem ce_cut {lo hi:Option Expr} {dl dh:Option D} (ha:CE X a da) (hl:CO X lo dl) (hh:CO X hi dh):CE X (.Subscript a (.Slice lo hi none p2) pos) (dCut da dl dh) :=
 PE.imp (pe_slice (sl_list.or sl_tup) ha hl hh) fun σ H Q hX11_ => by
  obtain ⟨F,α,e,μ,S,h⟩:=hX11_
  refine ⟨F,α,e,μ,S,(R.wp_bind h).mono (fun x μ1 h v H1 F1 α1 x1 S1 o1 => ⟨F1,α1,e,μ1,S1,?_⟩) fun _ _ h => h⟩
  refine (R.wp_bind h).mono (fun l μ2 h H2 F2 α2 x2 S2 => ⟨F2,α2,e,μ2,S2,?_⟩) fun _ _ h => h.mono x1
  refine (R.wp_bind h).mono (fun r μ3 h H3 F3 α3 x3 S3 => ?_) fun _ _ h => h.mono (x1.trans x2)
  obtain ⟨w,h9,post⟩:=R.wp_lift h
  obtain ⟨t,w',ht,h,rfl⟩:=ap1_eq h9
  have nt:=now_of S3.st (o1.mono (x2.trans x3).same (x2.trans x3).pre) ht
  have fin:∀ v' H' F',Grow F3 H3 F' H' → Rep X.K F' w' v' → Q v' H':=fun v' H' F' g rp => post v' H' F' α3 (x1.trans (x2.trans (x3.trans (g.ex S3.st.ext)))) (S3.grow g) rp
  cases t with
  | lst ts =>
   cases h
   obtain ⟨c,vs,rfl,hq,hl⟩:=nt.lst_
   exact .inl ⟨c,vs,rfl,hq,fun q hq' => new_lst S3.st.ext hq' (hl.cut l r) fin⟩
  | tup ts =>
   have h:(if Fw.sIx ts.length 0 l = 0 ∧ Fw.sIx ts.length ts.length r = ts.length then none else some (T.tup (cutT ts l r))) = some w':=h
   by_cases hc:Fw.sIx ts.length 0 l = 0 ∧ Fw.sIx ts.length ts.length r = ts.length
   ·rw [if_pos hc] at h; cases h
   ·rw [if_neg hc] at h
    cases h
    obtain ⟨c,vs,rfl,hq,hl⟩:=nt.tup_
    refine .inr ⟨c,vs,rfl,Same.seqT S3.st.ext hq,?_,fun q hq' => new_tup S3.st.ext hq' (hl.cut l r) fin⟩
    have e:∀ d o,HT.sIx vs.length d o = Fw.sIx ts.length d o:=fun d o => by rw [hl.length]; cases o <;> rfl
    rw [e,e,← hl.length]
    exact hc
  | _ => cases h
end
end Fw
namespace Fw
open PySem PySem.Spec PyProof.Rows L2
section
variable {X:Cx} {a b c:Expr} {da db dc:D} {pos p p2:Pos}
theorem cs_setItem (i:Nat) {y:Str} {py tpos:Pos} {ik ev:Expr} {dk dv:D} (hk:CE X ik dk) (hv:CE X ev dv) (hN:X.N[i]? = some y:=by rfl)
  (hvs:Vis X.env.scope y:=by first | exact Or.inl rfl | exact Or.inr (Or.inl rfl) | exact Or.inr (Or.inr rfl)) (hd:(y == ("__debug__":Str)) = false:=by decide) (hcd:(y == ("__classdict__":Str)) = false:=by decide)
  (ha:∀ v,assign (.Subscript (.Name y py) ik tpos) X.env v = (do
   let ov ← holding [v] (eval (.Name y py) X.env)
   let iv ← holding [v,ov] (eval ik X.env)
   standAt tpos
   holding [v,ov,iv] (setItem ov iv v)
   release [v,ov,iv] []):=by intro _; rfl)
  (hs:swapsWithSole [.Subscript (.Name y py) ik tpos] ev pos.line X.env = pure false:=by rfl) (hw:swappedStores [.Subscript (.Name y py) ik tpos] ev X.env = pure none:=by rfl)
  (h1:(assignEach [.Subscript (.Name y py) ik tpos] X.env).map (·.2) = [assign (.Subscript (.Name y py) ik tpos) X.env]:=by rfl) :
  CS X (.Assign [.Subscript (.Name y py) ik tpos] ev pos) (sSetItem i dk dv) :=
 PS.imp (ps_asg hv (pg_sub (pe_var hN hvs hd hcd) hk set_list ha) hs hw h1) fun D σ H hX11_ => by
  obtain ⟨F,α,e,μ,S,h⟩:=hX11_
  refine ⟨F,α,e,μ,S,(PostS.toS h).mono (fun y μ1 h v H1 F1 α1 x1 S1 o1 => ?_) fun _ _ h => h⟩
  obtain ⟨x,hx,h⟩:=PostS.lift h
  obtain ⟨ov,hov,oo⟩:=S1.sl i x hx
  refine ⟨ov,hov,F1,α1,e,μ1,S1,(PostS.toS h).mono (fun z μ2 h v2 H2 F2 α2 x2 S2 o2 => ?_) fun _ _ h => h.mono x1⟩
  obtain ⟨k,hk,h⟩:=PostS.lift h
  have h:=h.toS
  have nk:=now_of S2.st o2 hk
  cases hz:frz y μ2 with
  | err c μ3 => exact absurd hz (frz_no y μ2 c μ3)
  | bad => rw [hz] at h; exact h.elim
  | ok t μ3 =>
   rw [hz] at h
   obtain ⟨μ4,ha4,h⟩:=PostS.lift h
   obtain ⟨F3,s3,n3,S3,r3⟩:=frz_ok S2.st (o1.mono x2.same x2.pre) hz
   cases x with
   | cel j =>
    obtain ⟨ad,had,rfl⟩:=oo
    cases k with
    | int ki =>
     cases nk.int
     unfold setAt at ha4
     simp only at ha4
     have hc:∃ us jj,μ3[j]? = some (true,.lst us) ∧ Fw.ixN us.length ki = some jj ∧ μ4 = μ3.set j (true,.lst (us.set jj t)):=by
      split at ha4
      ·rename_i us hjs
       obtain ⟨jj,e1,e2⟩:=Option.map_eq_some_iff.mp ha4
       exact ⟨us,jj,hjs,e1,e2.symm⟩
      ·cases ha4
     obtain ⟨us,jj,hj3,hjj,rfl⟩:=hc
     have ha3:α2[j]? = some ad:=pre_get x2.pre had
     obtain ⟨_,ws,hw,rw'⟩:=(S3.cell j true _ ad hj3 ha3).1 rfl
     have el:=rw'.length
     refine ⟨ad,ws,ki,jj,rfl,rfl,hw,by rw [← el]; exact hjj,?_⟩
     have x3:Ex F α H F3 α2 H2:=x1.trans (x2.trans (Ex.of_ne s3 n3))
     exact h σ _ F3 α2 (x3.trans (Ex.put ha3)) ((S2.of s3 (List.prefix_refl _) S3).of (Same.refl _) (List.prefix_refl _) (put_ok S3 hj3 ha3 ⟨_,upd_same,rw'.set jj r3⟩))
    | _ => unfold setAt at ha4; cases ha4
   | val t => cases k <;> (unfold setAt at ha4; cases ha4)
   | box xs => cases k <;> (unfold setAt at ha4; cases ha4)
theorem chain_read {r r':R2} {f g:T → T → Option T} (hs:OpSem X.K r f) (hs':OpSem X.K r' g) (hf:∀ t u w,f t u = some w → ∃ k,w = .bl k) (σ:L2.St) (H:Hp) (Q:VK) (h:tD X (dChain f g da db dc) σ H Q):tChain r r' (tD X da) (tD X db) (tD X dc) σ H Q:=by
 obtain ⟨F,α,e,μ,S,h⟩:=h
 refine ⟨F,α,e,μ,S,?_⟩
 refine (R.wp_bind h).mono (fun x μ1 h v H1 F1 α1 x1 S1 o1 => ⟨F1,α1,e,μ1,S1,?_⟩) fun _ _ h => h
 refine (R.wp_bind h).mono (fun y μ2 h v2 H2 F2 α2 x2 S2 o2 => ?_) fun _ _ h => h.mono x1
 obtain ⟨w,h9,h⟩:=R.wp_lift (R.wp_bind h)
 obtain ⟨t,u,w',ht,hu,hfw,rfl⟩:=ap2_eq h9
 obtain ⟨k,rfl⟩:=hf t u w' hfw
 obtain ⟨k',e1,h⟩:=R.wp_lift (R.wp_bind h)
 cases e1
 refine hs F2 H2 v v2 t u _ _ S2.st.ext (now_of S2.st (o1.mono x2.same x2.pre) ht) (now_of S2.st o2 hu) hfw fun v' H' F' g1 rp => ?_
 have ev:v' = .bl k:=Rep.of_bl rp
 subst ev
 have x3:Ex F α H F' α2 H':=x1.trans (x2.trans (g1.ex S2.st.ext))
 have S3:=S2.grow g1
 refine ⟨k,rfl,?_⟩
 cases k with
 | false =>
  rw [if_neg (by decide)] at h ⊢
  exact h _ H' F' α2 x3 S3 (Rep.bl' (K:=X.K) (F:=F') false)
 | true =>
  rw [if_pos rfl] at h ⊢
  refine ⟨F',α2,e,μ2,S3,(R.wp_bind h).mono (fun z μ3 h v3 H3 F3 α3 x4 S4 o4 => ?_) fun _ _ h => h.mono x3⟩
  obtain ⟨w,h9,post⟩:=R.wp_lift h
  obtain ⟨t2,u2,w2,ht2,hu2,hgw,rfl⟩:=ap2_eq h9
  exact hs' F3 H3 v2 v3 t2 u2 w2 Q S4.st.ext (now_of S4.st ((o2.mono (g1.same S2.st.ext) (List.prefix_refl _)).mono x4.same x4.pre) ht2) (now_of S4.st o4 hu2) hgw fun v' H' F' g rp =>
   post v' H' F' α3 (x3.trans (x4.trans (g.ex S4.st.ext))) (S4.grow g) rp
theorem fLe_bl (t u w:T) (h:fLe t u = some w):∃ k,w = .bl k:=by
 cases t <;> cases u <;> first | (cases h; exact ⟨_,rfl⟩) | cases h
theorem ce_chain_le_lt (ha:CE X a da) (hb:CE X b db) (hc:CE X c dc) (hm:lastMarks [.LtE,.Lt] [b,c] = false:=by with_unfolding_all rfl):CE X (.Compare a [.LtE,.Lt] [b,c] pos) (dChain fLe fLt da db dc) :=
 PE.imp (pe_chain op_le op_lt ha hb hc hm) (chain_read sem_le sem_lt fLe_bl)
theorem ct_of_ce {t:TE} {d:D} (h:PT X a (tTest t)) (i:∀ σ H Q,tD X d σ H Q → t σ H Q):CT X a d:=PT.imp h fun σ H Q hX11_ => by
 obtain ⟨F,α,e,μ,S,q⟩:=hX11_
 refine i σ H _ ⟨F,α,e,μ,S,q.mono (fun x μ1 hX21_ v H1 F1 α1 x1 S1 o1 => ?_) fun _ _ h => h⟩
 obtain ⟨k,e1,q⟩:=hX21_
 subst e1
 exact ⟨k,Rep.of_bl (K:=X.K) (F:=F1) o1,q H1 F1 α1 x1 S1⟩
theorem ct_chain_le_le (ha:CE X a da) (hb:CE X b db) (hc:CE X c dc) (hm:lastMarks [.LtE,.LtE] [b,c] = false:=by with_unfolding_all rfl):CT X (.Compare a [.LtE,.LtE] [b,c] pos) (dChain fLe fLe da db dc) :=
 ct_of_ce (pt_chain op_le op_le ha hb hc hm) (chain_read sem_le sem_le fLe_bl)
theorem now_non {K:PySem.W.Frag} {F H:Hp} {v:V} {t:T} (h:Now K F H v t):decide (v = .non) = (match t with | .non => true | _ => false):=by
 cases t with
 | non => have e:v = .non:=Rep.of_non (K:=K) (F:=F) h; subst e; rfl
 | bl b => have e:=h.bl; subst e; rfl
 | int b => have e:=h.int; subst e; rfl
 | str b => have e:=h.str; subst e; rfl
 | lst ts => obtain ⟨a,vs,rfl,_⟩:=h.lst_; rfl
 | tup ts => obtain ⟨a,vs,rfl,_⟩:=h.tup_; rfl
 | dct ts => obtain ⟨a,vs,rfl,_⟩:=h; rfl
 | exc c n => have h:Rep K F (.exc c n) v:=h; rw [Rep] at h; obtain ⟨a,rfl,_⟩:=h; rfl
noncomputable def fIsN:T → T → Option T:=fun t u => match u with
 | .non => isNon t
 | _ => none
noncomputable def fNotN:T → T → Option T:=fun t u => match u with
 | .non => notNon t
 | _ => none
theorem sem_isN {K:PySem.W.Frag}:OpSem K (fun x y H Q => y = .non ∧ Q (.bl (decide (x = .non))) H) fIsN:=by
 intro F H v u t t' w Q s hv hu hw q
 cases t' with
 | non =>
  refine ⟨Rep.of_non (K:=K) (F:=F) hu,?_⟩
  rw [now_non hv]
  refine q _ H F Grow.refl ?_
  cases t <;> (cases hw; exact Rep.bl' _)
 | _ => cases hw
theorem sem_notN {K:PySem.W.Frag}:OpSem K (fun x y H Q => y = .non ∧ Q (.bl (!decide (x = .non))) H) fNotN:=by
 intro F H v u t t' w Q s hv hu hw q
 cases t' with
 | non =>
  refine ⟨Rep.of_non (K:=K) (F:=F) hu,?_⟩
  rw [now_non hv]
  refine q _ H F Grow.refl ?_
  cases t <;> (cases hw; exact Rep.bl' _)
 | _ => cases hw
theorem dUn_isN:dBin fIsN da (dC .non) = dUn isNon da:=by
 funext e μ
 rw [dBin_is,dUn_is]
 cases da e μ with
 | ok x μ1 => rw [R.bind_ok,R.bind_ok,dC_is,R.bind_ok]; cases rd μ1 x <;> rfl
 | err c μ1 => rfl
 | bad => rfl
theorem dUn_notN:dBin fNotN da (dC .non) = dUn notNon da:=by
 funext e μ
 rw [dBin_is,dUn_is]
 cases da e μ with
 | ok x μ1 => rw [R.bind_ok,R.bind_ok,dC_is,R.bind_ok]; cases rd μ1 x <;> rfl
 | err c μ1 => rfl
 | bad => rfl
theorem ce_isnotN {j} (ha:CE X a da):CE X (.Compare a [.IsNot] [.Constant .none j p] pos) (dUn notNon da):=dUn_notN ▸ ce_cmp op_notN sem_notN (nomark _) ha ce_non
theorem ct_isN {j} (ha:CE X a da):CT X (.Compare a [.Is] [.Constant .none j p] pos) (dUn isNon da):=dUn_isN ▸ ct_cmp op_isN sem_isN (nomark _) ha ce_non
end
end Fw
namespace Fw
open PySem PySem.Spec PyProof.Rows L2
end Fw
namespace L2
open PySem PySem.Spec PyProof.Rows
end L2
namespace Fw
open PySem PySem.Spec PyProof.Rows L2
end Fw
namespace Fw
open PySem PySem.Spec PyProof.Rows L2
end Fw
namespace L2
open PySem PySem.Spec PyProof.Rows
open AutoSeq1 (wpAny_loadPart')
end L2
namespace Fw
open PySem PySem.Spec PyProof.Rows L2
end Fw
namespace L2
open PySem PySem.Spec PyProof.Rows
end L2
namespace Fw
open PySem PySem.Spec PyProof.Rows L2
section
variable {X:Cx} {a b c:Expr} {da db dc:D} {pos p p2:Pos} {k:Nat}
theorem ce_int_ (hm:X.mg "int" = none) (ha:CE X a da) (hg:Gl X "int":=by rfl) (hs1:starEach [a] X.env = (false,eval a X.env) :: starEach [] X.env:=by rfl) (hpl:(backTo pos (starEach [] X.env)).any (·.1) = false:=by rfl) :
  CE X (.Call (.Name "int" p) [a] [] pos) (dUn fInt da):=ce_ty1 call_int1 (by
 intro F H v t w Q s hv hw q
 cases t with
 | int i => cases hw; cases hv.int; exact .inl ⟨i,rfl,q _ H F Grow.refl (Rep.int' _)⟩
 | bl i => cases hw; cases Rep.of_bl (K:=X.K) (F:=F) hv; exact .inr ⟨i,rfl,q _ H F Grow.refl (Rep.int' _)⟩
 | _ => cases hw) hm (by decide +kernel) ha hg (by decide) (by decide) hs1 hpl
end
end Fw
namespace L2
open PySem PySem.Spec PyProof.Rows
end L2
namespace Fw
open PySem PySem.Spec PyProof.Rows L2
end Fw
namespace Fw
open PySem PySem.Spec PyProof.Rows L2
end Fw
namespace Fw
open PySem PySem.Spec PyProof.Rows L2
end Fw
namespace Fw
open PySem PySem.Spec PyProof.Rows L2
end Fw
namespace Fw
open PySem PySem.Spec PyProof.Rows L2
section
variable {X:Cx} {a b:Expr} {da db:D} {pos p:Pos} {k:Nat}
theorem ce_strI (hm:X.mg "str" = none) (ha:CE X a da) (hg:Gl X "str":=by rfl) (hs1:starEach [a] X.env = (false,eval a X.env) :: starEach [] X.env:=by rfl) (hpl:(backTo pos (starEach [] X.env)).any (·.1) = false:=by rfl) :
  CE X (.Call (.Name "str" p) [a] [] pos) (dUn fStr da):=ce_ty1 call_str_int (by
 intro F H v t w Q s hv hw q
 cases t with
 | int i =>
  by_cases hz:i.natAbs.log2 < 1920
  ·rw [fStr_int i hz] at hw
   cases hw
   cases hv.int
   exact ⟨i,rfl,hz,q _ H F Grow.refl (Rep.str' _)⟩
  ·rw [fStr,if_neg hz] at hw; cases hw
 | _ => cases hw) hm (by decide +kernel) ha hg (by decide) (by decide) hs1 hpl
end
end Fw
namespace Fw
open PySem PySem.Spec PyProof.Rows L2
end Fw
namespace Fw
open PySem PySem.Spec PyProof.Rows L2
end Fw
namespace L2
open PySem PySem.Spec PyProof.Rows
end L2
namespace L2
open PySem PySem.Spec PyProof.Rows
end L2
namespace Fw
open PySem PySem.Spec PyProof.Rows L2
end Fw
namespace L2
open PySem PySem.Spec PyProof.Rows
open AutoSeq1 (wpAny_loadPart')
noncomputable def IsRevT (h:Heap) (a l:Addr) (i:Int):Prop:=∃ o,h.get? a = some o ∧ o.cls = .type "reversed" ∧ o.data = .fields #[.ref l,rawInt i]
theorem IsRevT.at {h h':Heap} {a l:Addr} {i:Int} (x:IsRevT h a l i) (e:∀ o,h.get? a = some o → h'.get? a = some o):IsRevT h' a l i:=let ⟨o,ho,r⟩:=x; ⟨o,e _ ho,r⟩
end L2
namespace HT
open PySem PySem.Spec PyProof.Rows L2
end HT
namespace L2
open PySem PySem.Spec PyProof.Rows
end L2
namespace Fw
open PySem PySem.Spec PyProof.Rows L2
end Fw
namespace Fw
open PySem L2 PyProof.Rows
noncomputable abbrev bmV:List Value:=[.type "ValueError",.type "Exception",.type "BaseException",.type "object"]
theorem excK_of {K:PySem.W.Frag} {C:Addr} (h:PySem.W.excIn K C bmV "ValueError.__new__" = true):ExcK K C:=⟨⟨_,_,h,by decide⟩⟩
theorem cls_of {K:PySem.W.Frag} {C:Addr} {v:Value} {b:Bool} (h:PySem.W.mroIn K C v = some b):(PySem.W.clsIn K C).isSome = true:=by
 unfold PySem.W.mroIn at h
 cases q:PySem.W.clsIn K C with
 | none => rw [q] at h; cases h
 | some cd => rfl
theorem mroK_of {K:PySem.W.Frag} {C:Addr} {v:Value} {b:Bool} (h:PySem.W.mroIn K C v = some b):(mroK K C).contains v = b:=by
 unfold PySem.W.mroIn PySem.W.clsIn at h
 unfold mroK
 split at h
 ·rename_i ho
  rw [ho]
  simp only [Option.bind_some] at h
  split at h
  ·cases h
  ·exact Option.some.inj h
 ·cases h
theorem fm_nil {α:Type} {P:α → Prop}:∀ q ∈ ([]:List α),P q:=fun _ h => nomatch h
theorem fm_cons {α:Type} {P:α → Prop} {a:α} {l:List α} (h:P a) (hl:∀ q ∈ l,P q):∀ q ∈ a :: l,P q:=fun q hq => by
 rcases List.mem_cons.mp hq with rfl | hq
 ·exact h
 ·exact hl q hq
theorem f_one {R:Str} {b:Bool} {P:Str → Bool → Prop} (h:P R b):∀ n b',(if n = R then some b else none) = some b' → P n b':=fun n b' e => by
 by_cases hn:n = R
 ·rw [if_pos hn] at e
  cases e
  rw [hn]; exact h
 ·rw [if_neg hn] at e; cases e
theorem ch_one {X:Cx} {hs:List ExceptHandler} {R:Str} {d:DS} (h:CH1 X hs R d):CH X hs (fun n => if n = R then d else sBad):=CH.of fun n => by
 by_cases hn:n = R
 ·rw [if_pos hn,hn]; exact h
 ·rw [if_neg hn]; exact ch1_bad
end Fw
namespace Fw
open PySem L2 PyProof.Rows
noncomputable abbrev calmed (X:Cx):Cx:={ X with xe:=fun _ _ => False }
section
variable {X:Cx} {pins:List (Addr × Obj)} {σ:L2.St} {H:Hp} {s:Shared}
theorem inv_calmed (I:Inv X pins σ H s):Inv (calmed X) pins σ H s :=
 ⟨⟨I.ok.mod,I.ok.kind,I.ok.glob,I.ok.blt,I.ok.above,I.ok.inj,I.ok.has,I.ok.cab,I.ok.hd,I.ok.frames,I.ok.stk,I.ok.exf,I.ok.bs,I.ok.bsz,I.ok.noex,I.ok.exfs,I.ok.funs,I.ok.frf⟩,I.os,I.bare,I.base,I.loc,I.cell,I.free,I.freeC,I.pin,I.hok,I.len⟩
theorem inv_uncalmed (ok:X.Ok) (I:Inv (calmed X) pins σ H s):Inv X pins σ H s :=
 ⟨ok,I.os,I.bare,I.base,I.loc,I.cell,I.free,I.freeC,I.pin,I.hok,I.len⟩
theorem sp_uncalmed {D:Ends} {f:Flow} (ok:X.Ok) (h:SP (calmed X) pins D f s):SP X pins D f s:=by
 cases f with
 | next => obtain ⟨σ',H',I,q⟩:=h; exact ⟨σ',H',inv_uncalmed ok I,q⟩
 | brk => obtain ⟨σ',H',I,q⟩:=h; exact ⟨σ',H',inv_uncalmed ok I,q⟩
 | cont => obtain ⟨σ',H',I,q⟩:=h; exact ⟨σ',H',inv_uncalmed ok I,q⟩
 | ret u => obtain ⟨v,σ',H',I,r,q⟩:=h; exact ⟨v,σ',H',inv_uncalmed ok I,r,q⟩
end
theorem post_calm {X:Cx} {F H:Hp} {α:List Addr} {D:Ends} {d:DS} {e:Slots} {μ:Store} (h:PostS X F α H D (sCalm d e μ)):PostS (calmed X) F α H D (d e μ):=by
 unfold sCalm at h
 cases q:d e μ with
 | err c e1 μ1 => rw [q] at h; exact False.elim h
 | nx e1 μ1 => rw [q] at h; exact h
 | rt y μ1 => rw [q] at h; exact h
 | bk e1 μ1 => rw [q] at h; exact h
 | ct e1 μ1 => rw [q] at h; exact h
 | bad => rw [q] at h; exact h
theorem css_calm {X:Cx} {body:List Stmt} {d:DS} (h:CSs (calmed X) body d):CSs X body (sCalm d):=by
 intro pins s σ H D I ⟨F,α,e,μ,S,hd⟩
 exact wpAny_mono (h pins s σ H D (inv_calmed I) ⟨F,α,e,μ,S,post_calm hd⟩) (fun f s' q => sp_uncalmed I.ok q) fun _ _ z => z.elim
end Fw
namespace L2
open PySem PySem.Spec PyProof.Rows Fw
end L2
namespace Fw
open PySem PySem.Spec PyProof.Rows L2
end Fw
namespace Fw
open PySem PySem.Spec PyProof.Rows L2
noncomputable def rInA (K:PySem.W.Frag) (neg:Bool):R2:=fun x y H Q => ∃ t ts,Rep K H t x ∧ Rep K H (.lst ts) y ∧ okT 100 t = true ∧ okT 100 (.lst ts) = true ∧ Q (.bl (if neg then !inT t ts else inT t ts)) H
mutual
theorem okT_up:∀ (n:Nat) (t:T),okT n t = true → okT (n + 1) t = true
 | n,.non,_ => by simp
 | n,.bl _,_ => by simp
 | n,.int _,_ => by simp
 | n,.str x,h => by unfold okT at h ⊢; exact h
 | 0,.lst ts,h => by rw [okT] at h; cases h
 | n + 1,.lst ts,h => by rw [okT] at h ⊢; exact okTs_up n ts h
 | 0,.tup ts,h => by rw [okT] at h; cases h
 | n + 1,.tup ts,h => by rw [okT] at h ⊢; exact okTs_up n ts h
 | n,.dct _,h => by unfold okT at h; cases h
 | n,.exc _ _,h => by unfold okT at h; cases h
theorem okTs_up:∀ (n:Nat) (ts:List T),okTs n ts = true → okTs (n + 1) ts = true
 | n,[],_ => by rw [okTs]
 | n,t :: ts,h => by
  rw [okTs,Bool.and_eq_true] at h
  rw [okTs,okT_up n t h.1,okTs_up n ts h.2]
  rfl
end
noncomputable def likeV (h:Heap) (d:PyData) (w:Value):Bool:=@decide (∃ d' bs,Reads h w d' bs ∧ d'.canLay0 = true ∧ PyData.eqv d' d = true) (Classical.propDecidable _)
theorem likeV_is {h:Heap} {d d':PyData} {w:Value} {bs:List Addr} (r:Reads h w d' bs) (c:d'.canLay0 = true):likeV h d w = PyData.eqv d' d:=by
 unfold likeV
 rw [Bool.eq_iff_iff]
 refine Iff.trans (@decide_eq_true_iff _ (Classical.propDecidable _)) ?_
 constructor
 ·rintro ⟨d2,bs2,r2,c2,e⟩
  have:d' = d2:=SeqAt.Reads.unique d' d2 w bs bs2 c r r2
  rw [this]; exact e
 ·intro e
  exact ⟨d',bs,r,c,e⟩
section
variable {X:Cx} {pins:List (Addr × Obj)} {σ:L2.St} {H:Hp} {s:Shared} {k:Nat}
theorem like_all (I:Inv X pins σ H s) (hr:Room k X.A) {t:T} {v:Value} {as:List Addr} (o1:okT 100 t = true) (r1:Reads s.heap v (toPy t) as):∀ {ts:List T} {vs:List V} {its:List Value},RepL X.K H ts vs → Vals vs its → okTs 99 ts = true →
  its.any (likeV s.heap (toPy t)) = inT t ts ∧ ∀ w ∈ its,SeqAt.EqAt X.A.in1 s w v (likeV s.heap (toPy t) w)
 | [],vs,its,hl,hv,_ => by
  rw [RepL] at hl; subst hl; cases hv
  exact ⟨rfl,fun w hw => by cases hw⟩
 | u :: ts,vs,its,hl,hv,o => by
  rw [RepL] at hl
  obtain ⟨x,vs',rfl,q,r⟩:=hl
  cases hv with
  | cons rx hv =>
   rename_i w its
   rw [okTs,Bool.and_eq_true] at o
   obtain ⟨h1,h2⟩:=like_all I hr o1 r1 r hv o.2
   obtain ⟨bs,r2⟩:=reads_of I 99 u x w q rx o.1
   obtain ⟨c1,d1⟩:=can_of 100 t o1
   obtain ⟨c2,d2⟩:=can_of 99 u o.1
   have e:=likeV_is (d:=toPy t) r2 c2
   have eq:PyData.eqv (toPy u) (toPy t) = eqT u t:=eqv_of 100 u t (okT_up _ _ o.1) o1
   refine ⟨?_,fun w' hw => ?_⟩
   ·rw [List.any_cons,h1,e,eq]
    rfl
   ·rcases List.mem_cons.mp hw with z | z
    ·rw [z,e]
     exact SeqAt.eqAt_reads _ _ _ _ _ _ _ _ r2 r1 c2 c1 (by
      have hu:=hr.un
      show X.A.units + 1 + _ < _
      omega)
    ·exact h2 w' z
theorem op_notInA (hr:Room k X.A):OpR X (compareOp .NotIn) (rInA X.K true):=by
 intro pins s σ H x y v u Q I rx ry h
 obtain ⟨t,ts,h1,h2,o1,o2,q⟩:=h
 rw [Rep] at h2
 obtain ⟨a,vs,rfl,hq,hl⟩:=h2
 cases ry
 obtain ⟨its,r,pl,hz⟩:=I.list hq
 obtain ⟨as,r1⟩:=reads_of I 100 t x v h1 rx o1
 rw [okT] at o2
 obtain ⟨e1,e2⟩:=like_all I hr o1 r1 hl r o2
 refine SeqAt.notIn_listAt (likeV s.heap (toPy t)) pl.isList (fun w hw => e2 w (by simpa using hw)) ⟨.bl _,H,I,rfl,?_⟩
 rw [show its.toArray.any (likeV s.heap (toPy t)) = its.any (likeV s.heap (toPy t)) by simp,e1]
 exact q
end
theorem sem_ninA {K:PySem.W.Frag}:OpSem K (rInA K true) fNinA:=by
 intro F H v u t t' w Q s hv hu hw q
 cases t' with
 | lst us =>
  have hw:(if okT 100 t = true ∧ okT 100 (.lst us) = true then some (T.bl (!inT t us)) else none) = some w:=hw
  by_cases ho:okT 100 t = true ∧ okT 100 (.lst us) = true
  ·rw [if_pos ho] at hw
   cases hw
   exact ⟨t,us,hv.rep s (ok_noexc ho.1),hu.rep s (ok_noexc ho.2),ho.1,ho.2,q _ H F Grow.refl (Rep.bl' _)⟩
  ·rw [if_neg ho] at hw; cases hw
 | _ => cases hw
section
variable {X:Cx} {a b:Expr} {da db:D} {pos:Pos} {k:Nat}
theorem ct_ninA (hr:Room k X.A) (ha:CE X a da) (hb:CE X b db) (hm:behindInMarks .NotIn b = false:=by rfl):CT X (.Compare a [.NotIn] [b] pos) (dBin fNinA da db):=ct_cmp (op_notInA hr) sem_ninA hm ha hb
end
end Fw
namespace Fw
open PySem
noncomputable def asStr:SV → Option Str
 | .val (.str s) => some s
 | _ => none
@[simp] theorem asStr_str (s:Str):asStr (.val (.str s)) = some s:=(rfl)
noncomputable def asStrs:List T → Option (List Str)
 | [] => some []
 | .str s :: ts => (asStrs ts).map (s :: ·)
 | _ :: _ => none
theorem asStrs_eq:∀ {ts:List T} {ys:List Str},asStrs ts = some ys → ts = ys.map T.str
 | [],ys,h => by cases h; rfl
 | .str s :: ts,ys,h => by
  obtain ⟨zs,h1,rfl⟩:=Option.map_eq_some_iff.mp (show (asStrs ts).map (s :: ·) = some ys from h)
  rw [asStrs_eq h1]; rfl
 | .int _ :: _,_,h => by cases h
 | .bl _ :: _,_,h => by cases h
 | .non :: _,_,h => by cases h
 | .lst _ :: _,_,h => by cases h
 | .tup _ :: _,_,h => by cases h
 | .dct _ :: _,_,h => by cases h
 | .exc _ _ :: _,_,h => by cases h
theorem asStrs_map:∀ ys:List Str,asStrs (ys.map T.str) = some ys
 | [] => rfl
 | y :: ys => by
  show (asStrs (ys.map T.str)).map (y :: ·) = _
  rw [asStrs_map ys]; rfl
noncomputable def joinT (sep:Str):T → Option T
 | .lst ts => (asStrs ts).bind fun ys => if JoinOk sep ys = true then some (.str (Txt.join sep ys)) else none
 | _ => none
noncomputable def splitT (x:Str):T → Option T
 | .str y => if (y.length == 0) = false ∧ x.length ≤ szL ∧ (Txt.split x y).length ≤ szL then some (.lst ((Txt.split x y).map T.str)) else none
 | _ => none
noncomputable def dMeth (g:Str → T → Option T) (a b:D):D:=fun e μ => (a e μ).bind fun x μ1 => (R.lift (asStr x) μ1).bind fun s μ1 => (b e μ1).bind fun y μ2 => R.lift (((rd μ2 y).bind (g s)).map SV.val) μ2
theorem dMeth_is (g:Str → T → Option T) (a b:D) (e:Slots) (μ:Store):dMeth g a b e μ = (a e μ).bind fun x μ1 => (R.lift (asStr x) μ1).bind fun s μ1 => (b e μ1).bind fun y μ2 => R.lift (((rd μ2 y).bind (g s)).map SV.val) μ2:=(rfl)
end Fw
namespace Fw
open PySem
noncomputable def fInS:T → T → Option T
 | .str i,.str j => some (.bl (!(Builtin.Str.occurrences j i 0 j.length 1).isEmpty))
 | _,_ => none
noncomputable def fIntS:T → Option T
 | .str x => if x.length ≤ 640 then (PySem.intText? x).map T.int else none
 | _ => none
noncomputable def cutS (x:Str) (lo hi:Option Int):Str :=
 if (Builtin.Str.strSliceIndices lo hi 1 x.length).length == x.length then x else ⟨(List.filterMap (fun i => x.cps[i]?) (Builtin.Str.strSliceIndices lo hi 1 x.length)).toArray⟩
noncomputable def fCutS (t:T) (lo hi:Option Int):Option T:=match t with
 | .str x => if (cutS x lo hi).length ≤ szL then some (.str (cutS x lo hi)) else none
 | _ => none
noncomputable def dCutS (da:D) (lo hi:Option D):D:=fun e μ => (da e μ).bind fun x μ1 => (dOpt lo e μ1).bind fun l μ2 => (dOpt hi e μ2).bind fun h μ3 => R.lift (ap1 (fun t => fCutS t l h) (rd μ3 x)) μ3
theorem dCutS_is (da:D) (lo hi:Option D) (e:Slots) (μ:Store):dCutS da lo hi e μ = (da e μ).bind fun x μ1 => (dOpt lo e μ1).bind fun l μ2 => (dOpt hi e μ2).bind fun h μ3 => R.lift (ap1 (fun t => fCutS t l h) (rd μ3 x)) μ3:=(rfl)
noncomputable def signsT (x:Str):List T:=x.cps.toList.map fun c => .str ⟨#[c]⟩
noncomputable def iStr (d:D):DI:=fun e μ => (d e μ).bind fun x μ1 => (R.lift (asStr x) μ1).bind fun s μ1 => .ok ⟨signsT s,fun _ => True⟩ μ1
theorem iStr_is (d:D) (e:Slots) (μ:Store):iStr d e μ = (d e μ).bind fun x μ1 => (R.lift (asStr x) μ1).bind fun s μ1 => .ok ⟨signsT s,fun _ => True⟩ μ1:=(rfl)
noncomputable def indexT (x:Str):T → Option T
 | .str y => match Builtin.Str.occurrences x y 0 x.length 1 with
  | i :: _ => some (.int (i:Int))
  | [] => none
 | _ => none
end Fw
namespace L2
open PySem PySem.Spec PyProof.Rows Fw
section
variable {X:Cx}
theorem vals_strs:∀ {ys:List Str} {us:List Value},Vals (ys.map V.str) us → ∃ l:List (Str × Tok),PySem.strValues l = us ∧ l.map (fun x => x.1) = ys
 | [],_,.nil => ⟨[],rfl,rfl⟩
 | y :: ys,_,.cons ⟨t,e⟩ h => by
  obtain ⟨l,h1,h2⟩:=vals_strs h
  exact ⟨(y,t) :: l,by rw [← h1,e]; rfl,by rw [List.map_cons,h2]⟩
theorem mt_join:MtR X "str.join" (fun x vs H Q => ∃ (sep:Str) (p:Addr) (ys:List Str),x = .str sep ∧ vs = [.ref p] ∧ SqL X.K H p (ys.map V.str) ∧ JoinOk sep ys = true ∧ Q (.str (Txt.join sep ys)) H):=by
 intro pins s σ H x vs v us Q I rx rv h
 obtain ⟨sep,p,ys,rfl,rfl,hq,ho,q⟩:=h
 obtain ⟨t,rfl⟩:=rx
 obtain ⟨u,rfl,ru⟩:=rv.one
 cases ru
 obtain ⟨its,rv,pl,hz⟩:=I.list hq
 obtain ⟨l,rfl,h2⟩:=vals_strs rv
 refine SC.join pl.isList h2 ho fun t' k => ?_
 exact ⟨.str (Txt.join sep ys),H,I.tok k,⟨t',rfl⟩,q⟩
theorem vals_from:∀ (ys:List Str) (k:Nat),Vals (ys.map V.str) (PySem.strsFrom k ys)
 | [],_ => .nil
 | y :: ys,k => by
  rw [List.map_cons,PySem.strsFrom]
  exact .cons ⟨_,rfl⟩ (vals_from ys (k + 1))
theorem mt_split:MtR X "str.split" (fun x vs H Q => ∃ (a b:Str),x = .str a ∧ vs = [.str b] ∧ (b.length == 0) = false ∧ a.length ≤ sizeLine ∧ (Txt.split a b).length ≤ sizeLine ∧ ∀ q,H q = none → Q (.ref q) (upd H q (.lst ((Txt.split a b).map V.str)))):=by
 intro pins s σ H x vs v us Q I rx rv h
 obtain ⟨a,b,rfl,rfl,hb,ha,hz,q⟩:=h
 obtain ⟨t,rfl⟩:=rx
 obtain ⟨u,rfl,ru⟩:=rv.one
 obtain ⟨t2,rfl⟩:=ru
 have hfr:=I.hok.fresh (Nat.le_refl s.heap.objs.size)
 have q:=q _ hfr
 by_cases h1:(decide (a.length < b.length) || decide (PySem.Builtin.Str.strKind a < PySem.Builtin.Str.strKind b)) = true
 ·have e:Txt.split a b = [a]:=by unfold Txt.split; rw [if_pos h1]
  rw [e] at q hz
  refine call_meets F.slot_str_split (typeIs_str s a t) F.entry_str_split (F.args_str_split_2 _ _) (PySem.meets_str_split_cannot_occur a b t t2 h1) ?_
  exact ⟨.ref s.heap.objs.size,_,I.lnew (ys:=[V.str a]) (its:=[.str a t]) (.cons ⟨t,rfl⟩ .nil) (by simpa using hz),rfl,q⟩
 ·have h1:(decide (a.length < b.length) || decide (PySem.Builtin.Str.strKind a < PySem.Builtin.Str.strKind b)) = false:=by simpa using h1
  by_cases h2:(PySem.Builtin.Str.occurrences a b 0 a.length (a.length + 1)).isEmpty = true
  ·have e:Txt.split a b = [a]:=by unfold Txt.split; rw [if_neg (by rw [h1]; exact Bool.false_ne_true),if_pos h2]
   rw [e] at q hz
   refine call_meets F.slot_str_split (typeIs_str s a t) F.entry_str_split (F.args_str_split_2 _ _) (PySem.meets_str_split_not_found a b t t2 h1 hb h2) ?_
   exact ⟨.ref s.heap.objs.size,_,I.lnew (ys:=[V.str a]) (its:=[.str a t]) (.cons ⟨t,rfl⟩ .nil) (by simpa using hz),rfl,q⟩
  ·have e:Txt.split a b = PySem.Builtin.Str.partsBetween a (PySem.Builtin.Str.occurrences a b 0 a.length (a.length + 1)) b.length:=by unfold Txt.split; rw [if_neg (by rw [h1]; exact Bool.false_ne_true),if_neg h2]
   have h2:(PySem.Builtin.Str.occurrences a b 0 a.length (a.length + 1)).isEmpty = false:=by simpa using h2
   rw [e] at q hz
   refine call_meets F.slot_str_split (typeIs_str s a t) F.entry_str_split (F.args_str_split_2 _ _) (PySem.meets_str_split_sep a b t t2 h1 hb h2 ha hz) ?_
   exact ⟨.ref s.heap.objs.size,_,I.lnew (vals_from _ _) (by rw [List.length_map]; exact hz),rfl,q⟩
end
end L2
namespace Fw
open PySem PySem.Spec PyProof.Rows L2
theorem RepL.strs' {K:PySem.W.Frag} {F:Hp}:∀ {bs:List Str} {vs:List V},RepL K F (bs.map T.str) vs → vs = bs.map V.str
 | [],vs,h => by rw [List.map_nil,RepL] at h; exact h
 | b :: bs,vs,h => by
  rw [List.map_cons,RepL] at h
  obtain ⟨v,vs',rfl,q,r⟩:=h
  rw [r.strs',q.of_str]; rfl
section
variable {X:Cx}
noncomputable def MethSem (K:PySem.W.Frag) (r:V → List V → Hp → VK → Prop) (g:Str → T → Option T):Prop:=∀ x F H u t w Q,Same F H → Now K F H u t → g x t = some w →
 (∀ v' H' F',Grow F H F' H' → Rep K F' w v' → Q v' H') → r (.str x) [u] H Q
theorem ce_meth {o e1:Expr} {do_ de:D} {apos cpos:Pos} {name:Str} {id:String} {r:V → List V → Hp → VK → Prop} {g:Str → T → Option T} (slot:Slot "str" name id) (hty:typeOf (.builtin id) = pure (.type "method_descriptor")) (hm:MtR X id r) (hg:MethSem X.K r g) (ho:CE X o do_) (he:CE X e1 de) (hbase:attributeBase o name X.env (eval o X.env) = eval o X.env:=by rfl)
  (hfew:((backTo cpos (starEach [e1] X.env)).all (fun x => !x.1) && (backToKw cpos (keywordEach [] X.env)).all (fun x => x.1.isSome) && decide (([e1]:List Expr).length + ([]:List Keyword).length + (if ([]:List Keyword).isEmpty then 0 else 1) < 30)) = true:=by rfl)
  (hline:(apos.endLine == cpos.line) = true:=by rfl) (hs1:starEach [e1] X.env = (false,eval e1 X.env) :: starEach [] X.env:=by rfl) (hpl:(backTo cpos (starEach [] X.env)).any (·.1) = false:=by rfl) :
  CE X (.Call (.Attribute o name apos) [e1] [] cpos) (dMeth g do_ de) :=
 PE.imp (pe_bm PySem.F.plainAttrs_str slot hty hm ho (ca_cons he ca_nil hs1) hbase hfew hline hs1 hpl) fun σ H Q hX11_ => by
  obtain ⟨F,α,e,μ,S,h⟩:=hX11_
  refine ⟨F,α,e,μ,S,(R.wp_bind h).mono (fun x μ1 h v H1 F1 α1 x1 S1 o1 => ?_) fun _ _ h => h⟩
  obtain ⟨sep,hl,h3⟩:=R.wp_lift (R.wp_bind h)
  cases x with
  | val t =>
   cases t with
   | str z =>
    cases hl
    have o1:v = .str sep:=Rep.of_str (show Rep X.K F1 (.str sep) v from o1)
    subst o1
    refine ⟨rfl,args1 ⟨F1,α1,e,μ1,S1,(R.wp_bind h3).mono (fun y μ2 h v2 H2 F2 α2 x2 S2 o2 => ?_) fun _ _ h => h.mono x1⟩⟩
    obtain ⟨w,hw,h⟩:=R.wp_lift h
    obtain ⟨t,ht,rfl⟩:=Option.map_eq_some_iff.mp hw
    obtain ⟨u,hu,hj⟩:=Option.bind_eq_some_iff.mp ht
    exact hg sep F2 H2 v2 u t Q S2.st.ext (now_of S2.st o2 hu) hj fun v' H' F' gr rp => h v' H' F' α2 ((x1.trans x2).trans (gr.ex S2.st.ext)) (S2.grow gr) rp
   | _ => cases hl
  | cel j => cases hl
  | box xs => cases hl
theorem sem_join {K:PySem.W.Frag}:MethSem K (fun x vs H Q => ∃ (sep:Str) (p:Addr) (ys:List Str),x = .str sep ∧ vs = [.ref p] ∧ SqL K H p (ys.map V.str) ∧ JoinOk sep ys = true ∧ Q (.str (Txt.join sep ys)) H) joinT:=by
 intro x F H u t w Q s hv hw q
 cases t with
 | lst ts =>
  obtain ⟨ys,h1,h2⟩:=Option.bind_eq_some_iff.mp (show ((asStrs ts).bind fun ys => if JoinOk x ys = true then some (T.str (Txt.join x ys)) else none) = some w from hw)
  by_cases hok:JoinOk x ys = true
  ·rw [if_pos hok] at h2
   cases h2
   obtain ⟨a,vs,rfl,hq,hl⟩:=hv.lst_
   rw [asStrs_eq h1] at hl
   rw [hl.strs'] at hq
   exact ⟨x,a,ys,rfl,rfl,hq,hok,q _ H F Grow.refl (by rw [Rep])⟩
  ·rw [if_neg hok] at h2; cases h2
 | _ => cases hw
theorem RepL.of_strs {K:PySem.W.Frag} {F:Hp}:∀ bs:List Str,RepL K F (bs.map T.str) (bs.map V.str)
 | [] => by rw [List.map_nil,List.map_nil,RepL]
 | b :: bs => by
  rw [List.map_cons,List.map_cons,RepL]
  exact ⟨_,_,rfl,by rw [Rep],RepL.of_strs bs⟩
theorem sem_split {K:PySem.W.Frag}:MethSem K (fun x vs H Q => ∃ (a b:Str),x = .str a ∧ vs = [.str b] ∧ (b.length == 0) = false ∧ a.length ≤ sizeLine ∧ (Txt.split a b).length ≤ sizeLine ∧ ∀ q,H q = none → Q (.ref q) (upd H q (.lst ((Txt.split a b).map V.str)))) splitT:=by
 intro x F H u t w Q s hv hw q
 cases t with
 | str y =>
  by_cases hok:(y.length == 0) = false ∧ x.length ≤ szL ∧ (Txt.split x y).length ≤ szL
  ·have hw:(if (y.length == 0) = false ∧ x.length ≤ szL ∧ (Txt.split x y).length ≤ szL then some (T.lst ((Txt.split x y).map T.str)) else none) = some w:=hw
   rw [if_pos hok] at hw
   cases hw
   have e:u = .str y:=hv
   subst e
   exact ⟨x,y,rfl,rfl,hok.1,hok.2.1,hok.2.2,fun p hp => new_lst s hp (RepL.of_strs _) q⟩
  ·have hw:(if (y.length == 0) = false ∧ x.length ≤ szL ∧ (Txt.split x y).length ≤ szL then some (T.lst ((Txt.split x y).map T.str)) else none) = some w:=hw
   rw [if_neg hok] at hw; cases hw
 | _ => cases hw
end
end Fw
namespace Fw
open PySem PySem.Spec PyProof.Rows L2
section
variable {X:Cx} {a b:Expr} {da db:D} {pos:Pos}
theorem sem_inS {K:PySem.W.Frag}:OpSem K (fun x y H Q => ∃ i j,x = .str i ∧ y = .str j ∧ Q (.bl (!(Builtin.Str.occurrences j i 0 j.length 1).isEmpty)) H) fInS:=by
 intro F H v u t t' w Q s hv hu hw q
 cases t with
 | str i =>
  cases t' with
  | str j =>
   cases hw
   have e1:v = .str i:=hv
   have e2:u = .str j:=hu
   exact ⟨i,j,e1,e2,q _ H F Grow.refl (by rw [Rep])⟩
  | _ => cases hw
 | _ => cases hw
theorem ce_inS (ha:CE X a da) (hb:CE X b db) (hm:behindInMarks .In b = false:=by rfl):CE X (.Compare a [.In] [b] pos) (dBin fInS da db):=ce_cmp op_in_str sem_inS hm ha hb
theorem call_intS:CallR X (.type "int") (fun xs H Q => ∃ x i,xs = [.str x] ∧ x.length ≤ 640 ∧ PySem.intText? x = some i ∧ Q (.int i) H):=by
 intro pins s σ H xs us Q I r h
 obtain ⟨x,i,rfl,hl,hi,q⟩:=h
 obtain ⟨u,rfl,ru⟩:=vals1 r
 obtain ⟨t,rfl⟩:=ru
 exact PySem.W.KTb.int_tab (L:=[x]) (zs:=[i]) (n:=1) (k:=0) (by omega) (fun j hj => by
  have:j = 0:=by omega
  subst this
  exact ⟨hi,hl⟩) fun t' k' => ⟨.int i,H,I.tok k',⟨t',rfl⟩,q⟩
theorem sem_intS {K:PySem.W.Frag}:CallSem1 K (fun xs H Q => ∃ x i,xs = [.str x] ∧ x.length ≤ 640 ∧ PySem.intText? x = some i ∧ Q (.int i) H) fIntS:=by
 intro F H v t w Q s hv hw q
 cases t with
 | str x =>
  have hw:(if x.length ≤ 640 then (PySem.intText? x).map T.int else none) = some w:=hw
  by_cases hz:x.length ≤ 640
  ·rw [if_pos hz] at hw
   obtain ⟨i,hi,rfl⟩:=Option.map_eq_some_iff.mp hw
   have e:v = .str x:=hv
   exact ⟨x,i,by rw [e],hz,hi,q _ H F Grow.refl (by rw [Rep])⟩
  ·rw [if_neg hz] at hw; cases hw
 | _ => cases hw
end
end Fw
namespace L2
open PySem PySem.Spec PyProof.Rows Fw
section
variable {X:Cx}
theorem part_of {v:Value} {o:Option Int} (p:IsPart v o):∃ l:Option (Int × Tok),PySem.partValue l = v ∧ l.map (fun x => x.1) = o:=by
 cases p with
 | none => exact ⟨none,rfl,rfl⟩
 | int i t => exact ⟨some (i,t),rfl,rfl⟩
theorem sl_str:SlR X (fun x lo hi H Q => ∃ z,x = .str z ∧ (cutS z lo hi).length ≤ sizeLine ∧ Q (.str (cutS z lo hi)) H):=by
 intro pins s σ H x v vl vu lo hi sl Q I rx hs pl pu h
 obtain ⟨z,rfl,hz,q⟩:=h
 obtain ⟨t,rfl⟩:=rx
 obtain ⟨l,rfl,rfl⟩:=part_of pl
 obtain ⟨u,rfl,rfl⟩:=part_of pu
 refine ⟨"str",_,PyProof.Rows.slot_str_getitem.lookup,typeIs_str s z t,?_⟩
 refine PySem.wpAny_getItem_str_slice (l:=l) (u:=u) (st:=none) hs rfl ?_
 unfold PySem.sliceMade
 unfold cutS at q hz
 by_cases hc:((Builtin.Str.strSliceIndices (l.map fun x => x.1) (u.map fun x => x.1) 1 z.length).length == z.length) = true
 ·rw [if_pos hc] at q
  rw [if_pos (by simpa [PySem.slicePicked] using hc)]
  exact ⟨.str z,H,I,⟨t,rfl⟩,q⟩
 ·rw [if_neg hc] at q hz
  rw [if_neg (by simpa [PySem.slicePicked] using hc)]
  exact ⟨hz,.str _,H,I.tok _,⟨_,rfl⟩,q⟩
end
end L2
namespace Fw
open PySem PySem.Spec PyProof.Rows L2
section
variable {X:Cx} {a:Expr} {da:D} {pos p2:Pos}
theorem ce_cutS {lo hi:Option Expr} {dl dh:Option D} (ha:CE X a da) (hl:CO X lo dl) (hh:CO X hi dh):CE X (.Subscript a (.Slice lo hi none p2) pos) (dCutS da dl dh) :=
 PE.imp (pe_slice sl_str ha hl hh) fun σ H Q hX11_ => by
  obtain ⟨F,α,e,μ,S,h⟩:=hX11_
  refine ⟨F,α,e,μ,S,(R.wp_bind h).mono (fun x μ1 h v H1 F1 α1 x1 S1 o1 => ⟨F1,α1,e,μ1,S1,?_⟩) fun _ _ h => h⟩
  refine (R.wp_bind h).mono (fun l μ2 h H2 F2 α2 x2 S2 => ⟨F2,α2,e,μ2,S2,?_⟩) fun _ _ h => h.mono x1
  refine (R.wp_bind h).mono (fun r μ3 h H3 F3 α3 x3 S3 => ?_) fun _ _ h => h.mono (x1.trans x2)
  obtain ⟨w,h9,post⟩:=R.wp_lift h
  obtain ⟨t,w',ht,h,rfl⟩:=ap1_eq h9
  have nt:=now_of S3.st (o1.mono (x2.trans x3).same (x2.trans x3).pre) ht
  cases t with
  | str z =>
   have h:(if (cutS z l r).length ≤ szL then some (T.str (cutS z l r)) else none) = some w':=h
   by_cases hz:(cutS z l r).length ≤ szL
   rotate_left
   ·rw [if_neg hz] at h; cases h
   rw [if_pos hz] at h
   cases h
   have e:v = .str z:=nt
   exact ⟨z,e,hz,post _ H3 F3 α3 (x1.trans (x2.trans x3)) S3 (show Rep X.K F3 (.str _) _ by rw [Rep])⟩
  | _ => cases h
end
end Fw
namespace L2
open PySem PySem.Spec PyProof.Rows
end L2
namespace Fw
open PySem PySem.Spec PyProof.Rows L2
end Fw
namespace L2
open PySem PySem.Spec PyProof.Rows Fw
noncomputable def Its (x:Str):It:=⟨fun i _ => i < x.cps.size,fun i H v H' => H' = H ∧ ∃ c,x.cps[i]? = some c ∧ v = .str ⟨#[c]⟩,fun i _ => i = x.cps.size⟩
theorem turn_str {P:Program} {w:World} {K:PySem.W.Frag} {tg:Expr} (x:Str) (t:Tok) (it:Addr) (ty:String) (ht:ty = "str_ascii_iterator" ∨ ty = "str_iterator"):Turn P w K tg (Its x) [it] it (fun i h => i ≤ x.cps.size ∧ h.IsStrIter it ty x t i) where
 mem:=by simp
 obj:=fun i h st b hb => by
  have e:b = it:=by simpa using hb
  subst e
  obtain ⟨_,o,e,c,d⟩:=st
  exact ⟨o,e,fun v z => by rw [d] at z; cases z⟩
 keep:=fun i h h' st k => by
  obtain ⟨hi,o,e,c,d⟩:=st
  exact ⟨hi,o,k it (by simp) o e,c,d⟩
 item:=by
  intro X hP hw hK hc i pins s σ H E I hf st hg
  subst hP hw hK
  obtain ⟨f0,f1,f2,f3,f4,f5⟩:=hf it (by simp)
  have W:Walks X.prog X.w X.A it [it] [it] x.cps.size (SignAt x) (fun i h => h.IsStrIter it ty x t i):=by
   rcases ht with rfl | rfl
   ·exact Walks.strAscii (I.ok.hd hc) it x t
   ·exact Walks.strWide (I.ok.hd hc) it x t
  refine W.item i s _ _ hg st.2 fun v h' tk hv st' kk => ?_
  obtain ⟨c,u,hcu,rfl⟩:=hv
  have I1:Inv X pins σ H { s with heap:=h',toks:=tk }:=I.turned (fun b o hb e => kk b o (by simpa using hb) e) f0 f1 f3 f4 f5
  obtain ⟨o,e,cc,d⟩:=id st'
  refine ⟨_,rfl,go_of (s:={ s with heap:=h',toks:=tk }) (n:=ty) e cc d (by rcases ht with rfl | rfl <;> decide) ⟨.str ⟨#[c]⟩,H,I1,⟨u,rfl⟩,⟨rfl,c,hcu,rfl⟩,⟨hg,st'⟩,fun b hb => (hf b hb).1⟩⟩
 done:=by
  intro X hP hw hK hc i pins s σ H E I hf st hg
  subst hP hw hK
  obtain ⟨f0,f1,f2,f3,f4,f5⟩:=hf it (by simp)
  have W:Walks X.prog X.w X.A it [it] [it] x.cps.size (SignAt x) (fun i h => h.IsStrIter it ty x t i):=by
   rcases ht with rfl | rfl
   ·exact Walks.strAscii (I.ok.hd hc) it x t
   ·exact Walks.strWide (I.ok.hd hc) it x t
  have hg:i = x.cps.size:=hg
  subst hg
  exact W.done s _ _ st.2 fun h' tk kk => ⟨rfl,I.turned (fun b o hb e => kk b o (by simpa using hb) e) f0 f1 f3 f4 f5⟩
 self:=fun A i s Q E st h => by
  rcases ht with rfl | rfl
  ·exact wpAny_pyIter_striter_ascii st.2 h
  ·exact wpAny_pyIter_striter_wide st.2 h
noncomputable def iSgn (tl:TE):TI:=fun σ H R => tl σ H fun x H1 => ∃ z,x = .str z ∧ R (Its z) H1
theorem pi_str {X:Cx} {tg l:Expr} {tl:TE} (hl:PE X l tl):PI X tg l (iSgn tl):=by
 intro pins s σ H R I h
 refine thn (hl pins s σ H _ I h) fun v s1 hX11_ => ?_
 obtain ⟨x,H1,I1,r1,q1⟩:=hX11_
 obtain ⟨z,rfl,q⟩:=q1
 obtain ⟨t,rfl⟩:=r1
 have fin:∀ ty,(ty = "str_ascii_iterator" ∨ ty = "str_iterator") → PIE X pins σ tg R (.ref s1.heap.objs.size) { s1 with heap:=s1.heap.push { cls:=.type ty,data:=.fields #[.str z t,.int 0 0] } }:=fun ty hty => by
  have hnew:(s1.heap.push { cls:=.type ty,data:=.fields #[.str z t,.int 0 0] }).IsStrIter s1.heap.objs.size ty z t 0:=⟨_,Heap.get?_push_size _ rfl,rfl,rfl⟩
  have I2:Inv X pins σ H1 { s1 with heap:=s1.heap.push { cls:=.type ty,data:=.fields #[.str z t,.int 0 0] },toks:=s1.toks }:=I1.kept (t':=s1.toks) fun b o e => Heap.get?_push_of_some _ e
  refine ⟨_,[s1.heap.objs.size],_,_,H1,rfl,I2,turn_str z t s1.heap.objs.size ty hty,⟨Nat.zero_le _,hnew⟩,fun b hb => ?_,q⟩
  have e:b = s1.heap.objs.size:=by simpa using hb
  subst e
  exact I1.fpOk (Nat.le_refl _) (I1.hok.fresh (Nat.le_refl _))
 cases ha:z.cps.all fun x => decide (x < 128) with
 | true => exact wpAny_pyIter_ascii ha (fin _ (.inl rfl))
 | false => exact wpAny_pyIter_wide ha (fin _ (.inr rfl))
end L2
namespace Fw
open PySem PySem.Spec PyProof.Rows L2
theorem ci_str {X:Cx} {tg a:Expr} {da:D} (ha:CE X a da):CI X tg a (iStr da) :=
 PI.imp (pi_str ha) fun σ H R0 hX11_ => by
  obtain ⟨F,α,e,μ,S,h⟩:=hX11_
  refine ⟨F,α,e,μ,S,(R.wp_bind h).mono (fun x μ1 h v H1 F1 α1 x1 S1 o1 => ?_) fun _ _ h => h⟩
  obtain ⟨z,hl,post⟩:=R.wp_lift (R.wp_bind h)
  cases x with
  | val t =>
   cases t with
   | str y =>
    cases hl
    have o1:v = .str z:=Rep.of_str (show Rep X.K F1 (.str z) v from o1)
    refine ⟨z,o1,post _ H1 F1 α1 x1 S1 fun F2 α2 μ3 H2 s2 p2 S2 same => ?_⟩
    refine ⟨fun i t hi => ?_,?_⟩
    ·have hi:(z.cps.toList.map fun c => T.str ⟨#[c]⟩)[i]? = some t:=hi
     rw [List.getElem?_map] at hi
     obtain ⟨c,hc,rfl⟩:=Option.map_eq_some_iff.mp hi
     have hc2:z.cps[i]? = some c:=by rw [← Array.getElem?_toList]; exact hc
     refine ⟨(Array.getElem?_eq_some_iff.mp hc2).1,?_⟩
     rintro q H3 ⟨rfl,c',h1,rfl⟩
     rw [hc2] at h1
     cases h1
     exact ⟨F2,Grow.refl,by rw [Rep]⟩
    ·show (z.cps.toList.map fun c => T.str ⟨#[c]⟩).length = z.cps.size
     rw [List.length_map,Array.length_toList]
   | _ => cases hl
  | cel j => cases hl
  | box xs => cases hl
end Fw
namespace L2
open PySem PySem.Spec PyProof.Rows Fw
section
variable {X:Cx}
theorem mt_index:MtR X "str.index" (fun x vs H Q => ∃ (a b:Str) (i:Nat) (r:List Nat),x = .str a ∧ vs = [.str b] ∧ Builtin.Str.occurrences a b 0 a.length 1 = i :: r ∧ Q (.int (i:Int)) H):=by
 intro pins s σ H x vs v us Q I rx rv h
 obtain ⟨a,b,i,r,rfl,rfl,ho,q⟩:=h
 obtain ⟨t,rfl⟩:=rx
 obtain ⟨u,rfl,ru⟩:=rv.one
 obtain ⟨t2,rfl⟩:=ru
 exact SC.index ho ⟨.int (i:Int),H,I.tok _,⟨_,rfl⟩,q⟩
end
end L2
namespace Fw
open PySem PySem.Spec PyProof.Rows L2
section
variable {X:Cx}
theorem sem_index {K:PySem.W.Frag}:MethSem K (fun x vs H Q => ∃ (a b:Str) (i:Nat) (r:List Nat),x = .str a ∧ vs = [.str b] ∧ Builtin.Str.occurrences a b 0 a.length 1 = i :: r ∧ Q (.int (i:Int)) H) indexT:=by
 intro x F H u t w Q s hv hw q
 cases t with
 | str y =>
  have hw:(match Builtin.Str.occurrences x y 0 x.length 1 with | i :: _ => some (T.int (i:Int)) | [] => none) = some w:=hw
  cases ho:Builtin.Str.occurrences x y 0 x.length 1 with
  | nil => rw [ho] at hw; cases hw
  | cons i r =>
   rw [ho] at hw
   cases hw
   have e:u = .str y:=hv
   subst e
   exact ⟨x,y,i,r,rfl,rfl,ho,q _ H F Grow.refl (by rw [Rep])⟩
 | _ => cases hw
end
end Fw
namespace Fw
open PySem
noncomputable def fNinS:T → T → Option T
 | .str i,.str j => some (.bl (!(!(Builtin.Str.occurrences j i 0 j.length 1).isEmpty)))
 | _,_ => none
end Fw
namespace Fw
open PySem PySem.Spec PyProof.Rows L2
section
variable {X:Cx}
theorem sem_ninS {K:PySem.W.Frag}:OpSem K (fun x y H Q => ∃ i j,x = .str i ∧ y = .str j ∧ Q (.bl (!(!(Builtin.Str.occurrences j i 0 j.length 1).isEmpty))) H) fNinS:=by
 intro F H v u t t2 w Q s hv hu hw q
 cases t with
 | str i =>
  cases t2 with
  | str j =>
   cases hw
   exact ⟨i,j,hv.str,hu.str,q _ H F Grow.refl (by rw [Rep])⟩
  | _ => cases hw
 | _ => cases t2 <;> cases hw
variable {a b:Expr} {da db:D} {pos:Pos}
theorem ct_ninS (ha:CE X a da) (hb:CE X b db) (hm:behindInMarks .NotIn b = false:=by rfl):CT X (.Compare a [.NotIn] [b] pos) (dBin fNinS da db):=ct_cmp op_notin_str sem_ninS hm ha hb
theorem ce_join {apos cpos:Pos} (ho:CE X a da) (he:CE X b db) (hbase:attributeBase a "join" X.env (eval a X.env) = eval a X.env:=by rfl)
  (hfew:((backTo cpos (starEach [b] X.env)).all (fun x => !x.1) && (backToKw cpos (keywordEach [] X.env)).all (fun x => x.1.isSome) && decide (([b]:List Expr).length + ([]:List Keyword).length + (if ([]:List Keyword).isEmpty then 0 else 1) < 30)) = true:=by rfl)
  (hline:(apos.endLine == cpos.line) = true:=by rfl) (hs1:starEach [b] X.env = (false,eval b X.env) :: starEach [] X.env:=by rfl) (hpl:(backTo cpos (starEach [] X.env)).any (·.1) = false:=by rfl) :
  CE X (.Call (.Attribute a "join" apos) [b] [] cpos) (dMeth joinT da db):=ce_meth PySem.F.slot_str_join PySem.F.type_str_join mt_join sem_join ho he hbase hfew hline hs1 hpl
theorem ce_index {apos cpos:Pos} (ho:CE X a da) (he:CE X b db) (hbase:attributeBase a "index" X.env (eval a X.env) = eval a X.env:=by rfl)
  (hfew:((backTo cpos (starEach [b] X.env)).all (fun x => !x.1) && (backToKw cpos (keywordEach [] X.env)).all (fun x => x.1.isSome) && decide (([b]:List Expr).length + ([]:List Keyword).length + (if ([]:List Keyword).isEmpty then 0 else 1) < 30)) = true:=by rfl)
  (hline:(apos.endLine == cpos.line) = true:=by rfl) (hs1:starEach [b] X.env = (false,eval b X.env) :: starEach [] X.env:=by rfl) (hpl:(backTo cpos (starEach [] X.env)).any (·.1) = false:=by rfl) :
  CE X (.Call (.Attribute a "index" apos) [b] [] cpos) (dMeth indexT da db):=ce_meth PySem.F.slot_str_index PySem.F.type_str_index mt_index sem_index ho he hbase hfew hline hs1 hpl
end
end Fw
namespace L2
open PySem PySem.Spec PyProof.Rows Fw
end L2
namespace Fw
open PySem PySem.Spec PyProof.Rows L2
end Fw
namespace Fw
open PySem
end Fw
namespace Fw
open PySem PySem.Spec PyProof.Rows L2
end Fw
namespace L2
open PySem PySem.Spec PyProof.Rows
noncomputable abbrev eH1 (h:Heap) (l:Addr):Heap:=(h.push (itRec false l)).push { cls:=.type "enumerate",data:=.fields #[.none,.bool false,.ref h.objs.size,rawInt 1,.none,.none] }
open AutoSeq1 (wpAny_loadPart') in
set_option maxHeartbeats 4000000 in
theorem enum_newT1 (l:Addr) (its:Array Value) (n:Nat) (dc:Option Addr) (sl:Array (Option Value)) (t:Tok) :
  Meets (Builtin.«enumerate.__new__» ⟨[.type "enumerate",.ref l],[("start",.int 1 t)]⟩) (fun _ R s => s.heap.get? l = some { cls:=.type "tuple",dict:=dc,data:=.seq its n,slots:=sl } ∧
   R (.ok (.ret (.ref (s.heap.push (itRec false l)).objs.size))) { s with heap:=eH1 s.heap l }) :=
 .of_wp fun prog w A R s h => by
  obtain ⟨hp,g,d,tk,os⟩:=s
  obtain ⟨hl,h⟩:=h
  have q1:=sub_enumerate
  have q2:=AutoSeq1.idx_int
  have hT:Heap.IsTuple (Shared.heap ⟨hp,g,d,tk,os⟩) l its:=⟨_,hl,rfl,n,rfl⟩
  wp_walk using wpAny_loadPart' hl
  refine wpAny_stack_any fun st => wpAny_pure ?_
  split
  ·rename_i c _ _ _ _ _
   cases (c == Value.type "enumerate")
   ·(wp_walk using wpAny_loadPart' hl,wpAny_pyIter_tuple hT); exact ⟨_,rfl,h⟩
   ·(wp_walk using wpAny_loadPart' hl,wpAny_pyIter_tuple hT); exact ⟨_,rfl,h⟩
  ·(wp_walk using wpAny_loadPart' hl,wpAny_pyIter_tuple hT); exact ⟨_,rfl,h⟩
end L2
namespace L2
open PySem PySem.Spec PyProof.Rows
end L2
namespace Fw
open PySem
end Fw
namespace Fw
open PySem PySem.Spec PyProof.Rows L2
end Fw
namespace Fw.Set
open PySem
end Fw.Set
namespace Fw.Set
open PySem PyProof.Rows
end Fw.Set
namespace Fw.Set
open PySem PyProof.Rows
end Fw.Set
namespace Fw.Set
open PySem PyProof.Rows
end Fw.Set
namespace Fw.Set
open PySem PyProof.Rows
end Fw.Set
namespace Fw.Set
open PySem PyProof.Rows
end Fw.Set
namespace Fw.Set
open PySem PyProof.Rows
end Fw.Set
namespace Fw.Set
open PySem PyProof.Rows
end Fw.Set
namespace Fw.Set
open PySem PyProof.Rows
end Fw.Set
namespace Fw
open PySem
end Fw
namespace L2
open PySem PySem.Spec PyProof.Rows Fw Fw.Set
end L2
namespace Fw
open PySem PySem.Spec PyProof.Rows L2
end Fw
namespace L2
open PySem PySem.Spec PyProof.Rows
theorem note_env {e1 e2:Env} (h:e1.frame = e2.frame) (x:Value):noteFrame x e1 = noteFrame x e2:=by
 unfold noteFrame PySem.frameOf
 rw [h]
theorem frames_hide {B h h':Heap} {C:Addr}:∀ {l:List Env},h.FunFrames B l → (∀ b ∈ frs l,b ≠ C) → (∀ b,b ≠ C → h'.get? b = h.get? b) → h'.FunFrames (PySem.W.hideAll B [C]) l
 | [],_,_,_ => trivial
 | env :: l,⟨hk,⟨L,o,hf,hb,ho,hd⟩,hr⟩,hn,hs => by
  have hL:L ∈ frs (env :: l):=List.mem_filterMap.mpr ⟨env,List.mem_cons_self,hf⟩
  refine ⟨hk,⟨L,o,hf,?_,(hs L (hn L hL)).trans ho,hd⟩,frames_hide hr (fun b m => hn b ?_) hs⟩
  ·cases q:(PySem.W.hideAll B [C]).get? L with
   | none => rfl
   | some o' => rw [PySem.W.of_hideAll _ q] at hb; cases hb
  ·obtain ⟨e,m1,m2⟩:=List.mem_filterMap.mp m
   exact List.mem_filterMap.mpr ⟨e,List.mem_cons_of_mem _ m1,m2⟩
theorem hide_ne {B:Heap} {C b:Addr} {o:Obj} (h:(PySem.W.hideAll B [C]).get? b = some o):b ≠ C:=fun e => by
 rw [PySem.W.hideAll_none [C] (by rw [e]; exact .head _)] at h
 cases h
section
variable {X:Cx} {pins:List (Addr × Obj)} {σ:L2.St} {H0 H':Hp} {e t Cc C:Addr} {B h4 h':Heap} {s1 s3:Shared} {oC:Obj}
theorem Hel.comp (I:Inv X pins σ H0 s1) (fp:FpOk X pins H0 C) (hC:s1.heap.get? C = some oC) (hos:s3.os = s1.os) (hb:AllBare s3.gens) (U:Un (frs X.stack) [] H0 H' s1.heap h4) (hok:HOk X.prog X.w H' h4)
  (held:Heap.HeldW B X.stack e (.ref Cc) (.ref t) X.env.locals h4) (cov:∀ b o,s1.heap.get? b = some o → b ∉ frs X.stack → ∃ o',B.get? b = some o') (covT:∀ b o,H' b = some o → ∃ o',B.get? b = some o') (sb:∀ b,b ≠ C → h'.get? b = h4.get? b) :
  Hel X pins σ H' e t Cc (PySem.W.hideAll B [C]) { s3 with heap:=h' }:=by
 have nf:C ∉ frs X.stack:=fun m => by
  rcases List.mem_cons.mp (I.stkSub C m) with z | z
  ·exact fp.2.1 z
  ·exact fp.2.2.1 z
 have hn:H' C = none:=U.free C oC hC fp.1 (by simp)
 have BC:∃ o',B.get? C = some o':=cov C oC hC nf
 obtain ⟨k1,k2,k3,oe,vs,T,oT,ts,he,hcls,hd,h1,hnT,hTe,hT,hdT,h3⟩:=held
 have ne:∀ b,B.get? b = none → b ≠ C:=fun b q z => by
  obtain ⟨o',q'⟩:=BC
  rw [z,q'] at q; cases q
 have noneB:∀ b,B.get? b = none → (PySem.W.hideAll B [C]).get? b = none:=fun b q => by
  cases z:(PySem.W.hideAll B [C]).get? b with
  | none => rfl
  | some o' => rw [PySem.W.of_hideAll _ z] at q; cases q
 refine ⟨⟨H0,{ s1 with heap:=PySem.W.hideAll s1.heap [C] },?_,hos,?_,fun b o q nb => ?_⟩,hb,fun a o q => ?_,⟨fun b o q => ?_,noneB e k2,frames_hide k3 (fun b m z => nf (z ▸ m)) sb,oe,vs,T,oT,ts,(sb e (ne e k2)).trans he,hcls,hd,h1,noneB T hnT,hTe,(sb T (ne T hnT)).trans hT,hdT,h3⟩,fun b o q => ?_⟩
 ·exact I.turned (t':=s1.toks) (fun b o hb e => PySem.W.hideAll_get _ e (by simpa using hb)) fp.1 fp.2.1 fp.2.2.2.1 fp.2.2.2.2.1 fp.2.2.2.2.2
 ·refine ⟨fun b o q n nb _ => ?_,fun b o q n hb _ => ?_,fun b o q n _ => ?_,fun b o q _ => ?_,U.tups,U.frzs,U.tbls⟩
  ·exact (sb b (hide_ne q)).trans (U.keep b o (PySem.W.of_hideAll _ q) n nb (by simp))
  ·obtain ⟨sl,z⟩:=U.slot b o (PySem.W.of_hideAll _ q) n hb (by simp)
   exact ⟨sl,(sb b (hide_ne q)).trans z⟩
  ·exact U.free b o (PySem.W.of_hideAll _ q) n (by simp)
  ·obtain ⟨o',z⟩:=U.there b o (PySem.W.of_hideAll _ q) (by simp)
   exact ⟨o',(sb b (hide_ne q)).trans z⟩
 ·obtain ⟨o',z⟩:=cov b o (PySem.W.of_hideAll _ q) nb
  exact ⟨o',PySem.W.hideAll_get _ z (by simpa using hide_ne q)⟩
 ·refine (hok a o q).stay (fun c v hc r => ?_) (fun _ r => r) fun _ _ r => r
  refine (sb c fun z => ?_).trans r
  subst z
  rcases hc with rfl | hc
  ·rw [hn] at q; cases q
  ·rw [hn] at hc; cases hc
 ·exact (sb b (hide_ne q)).trans (k1 b o (PySem.W.of_hideAll _ q))
 ·have nb:b ≠ C:=fun z => by rw [z,hn] at q; cases q
  obtain ⟨o',z⟩:=covT b o q
  exact ⟨o',PySem.W.hideAll_get _ z (by simpa using nb)⟩
theorem hel_on {E:Value → Shared → Prop} {α:Type} {Q:α → Shared → Prop} {what:String} {env:Env} (hf:X.env.frame = some X.env.locals) (hv:env.frame = X.env.frame) {s:Shared} (c:Hel X pins σ H' e t Cc B s) (k:∀ h',Hel X pins σ H' e t Cc B { s with heap:=h' } → E (.ref e) { s with heap:=h' }) :
  wpAny (model X.prog X.w) X.A (PySem.passOn what (.ref e) env:Sem α) Q E s:=by
 obtain ⟨hkb,hen,hl,oe,vs,T,oT,ts,he,hcls,hd,h1,hnT,hTe,hT,hdT,h3⟩:=c.held
 have hsz3:3 < ts.size:=(Array.getElem?_eq_some_iff.mp h3).1
 have other:∀ b,b ≠ T → (s.heap.update T (Obj.mapFields (·.setIfInBounds 3 ((some X.env.locals).elim Value.none fun f => rawInt f)))).get? b = s.heap.get? b :=
  fun b hb => Heap.get?_update_other _ _ (Ne.symm hb)
 have noRecord:∀ b o,s.heap.get? b = some o → (∀ vs,o.data ≠ .fields vs) → b ≠ T:=fun b o hb hnf q => by
  rw [q,hT] at hb; injection hb with hb; subst hb; exact hnf ts hdT
 unfold PySem.passOn
 refine wpAny_bind (wpAny_field he hd h1 ?_)
 rw [if_neg (show ¬ ((Value.ref T == Value.none) = true) from by simp)]
 first | refine wpAny_bind (m:=setFlight (.ref e) env.frame) ?_ | (refine wpAny_bind (wpAny_pure ?_); refine wpAny_bind (m:=setFlight (.ref e) env.frame) ?_)
 rw [hv,hf]
 unfold setFlight
 refine wpAny_bind (wpAny_field he hd h1 ?_)
 rw [if_pos (show (Value.ref T != Value.none) = true from by simp)]
 refine wpAny_setField hT hdT hsz3 (wpAny_throw (k _ (c.slots ⟨fun b o hbo => (other b fun q => by rw [q,hnT] at hbo; cases hbo).trans (hkb b o hbo),hen,
  hl.of_keeps fun b o hb hnf => ⟨o,(other b (noRecord b o hb hnf)).trans hb,rfl⟩,?_⟩ fun b o hb hnf => ⟨o.slots,(other b (noRecord b o hb hnf)).trans hb⟩)))
 exact ⟨oe,vs,T,_,_,(other e (Ne.symm hTe)).trans he,hcls,hd,h1,hnT,hTe,Heap.get?_update_self _ hT (Obj.isFreed_of_fields (Obj.data_mapFields hdT _)),Obj.data_mapFields hdT _,by simp [hsz3]⟩
end
end L2
namespace L2
open PySem PySem.Spec PyProof.Rows Fw
theorem compLoop_genX {prog:Program} {w:World} {A:Around} {R:Result → Shared → Prop} {s:Shared} {elt target iter:Expr} {ifs:List Expr} {scope:Scope} {pos:Pos} {it acc:Value} {env:Env} (I:Nat → Shared → Prop)
  (turn:∀ n s,I n s → wpAny (model prog w) A (pyNext it) (fun r s₁ => match r with
   | none => R (.ok .next) s₁
   | some v => wpAny (model prog w) A (letOwnedTupleGo target it v) (fun _ s₁' => wpAny (model prog w) A (assign target env v) (fun _ s₂ =>
     wpAny (model prog w) A (forIn ifs true fun c r => if r = true then do let ok ← isTrue c env (eval c env); pure (ForInStep.yield ok) else pure (ForInStep.yield r)) (fun ok s₃ =>
      if ok = true then wpAny (model prog w) A (eval elt env) (fun x s₄ =>
       wpAny (model prog w) A (call (.builtin "list.append") [acc,x]) (fun _ s₅ => ∃ m,m < n ∧ I m s₅) (fun _ _ => False) s₄) (notedBy (model prog w) A env fun e s' => R (.error e) s') s₃
      else ∃ m,m < n ∧ I m s₃) (fun _ _ => False) s₂) (fun _ _ => False) s₁') (fun _ _ => False) s₁) (fun _ _ => False) s)
  (n:Nat) (h:I n s):codeAny (model prog w) A (.compLoop (.ListComp elt [⟨target,iter,ifs,0⟩] scope pos) 0 it acc env) R s:=by
 have no:∀ {α:Type} {t:Sem α} {Q:α → Shared → Prop} {E:Value → Shared → Prop} {s:Shared},wpAny (model prog w) A t Q (fun _ _ => False) s → wpAny (model prog w) A t Q E s:=fun h => wpAny_mono h (fun _ _ x => x) fun _ _ x => x.elim
 refine codeAny_loop rfl I (fun n s hI => ?_) n h
 show wpAny _ A ((compTurn (.ListComp elt [⟨target,iter,ifs,0⟩] scope pos) 0 it acc env).onRaise (fun x => do noteFrame x env; theTreesLotGoes x)) _ _ s
 refine wpAny_noted ?_
 rw [compTurn_list]
 refine wpAny_bind (wpAny_standAt (wpAny_bind (wpAny_mono (no (turn n s hI)) (fun r s₁ h₁ => ?_) fun _ _ h' => h')))
 cases r with
 | none => exact wpAny_pure h₁
 | some v =>
  refine wpAny_bind (wpAny_mono (no h₁) (fun _ s₁' h₁' => ?_) fun _ _ h' => h')
  refine wpAny_bind (wpAny_mono (no h₁') (fun _ s₂ h₂ => wpAny_bind (wpAny_mono (no h₂) (fun ok s₃ h₃ => ?_) fun _ _ h' => h')) fun _ _ h' => h')
  cases ok with
  | false => exact wpAny_pure ⟨rfl,h₃⟩
  | true =>
   exact wpAny_bind (wpAny_bind (wpAny_mono h₃ (fun x s₄ h₄ => wpAny_bind (wpAny_mono (no h₄) (fun _ s₅ h₅ => wpAny_pure (wpAny_pure ⟨rfl,h₅⟩)) fun _ _ h' => h')) fun _ _ h' => h'))
noncomputable def postX (M:Model) (A:Around) (E:Value → Shared → Prop) (Q:Value → Shared → Prop) (acc:Value) (C:Addr) (fr:Option Addr) (r:Result) (z:Shared):Prop :=
 match r with
 | .ok _ => ∃ m,z.heap.Ns C m ∧ ∀ h',Heap.SameBut C z.heap h' → Q acc { z with heap:=h' }
 | .error x => ∃ m,z.heap.Ns C m ∧ ∀ h',Heap.SameBut C z.heap h' → ∀ env:Env,env.locals = C → env.frame = fr → wpAny M A (PySem.passOn "comprehension.variables-let-go" x env:Sem Value) (fun _ _ => False) E { z with heap:=h' }
theorem comp_own {M:Model} {A:Around} {E:Value → Shared → Prop} {s:Shared} {env:Env} {e:Expr} {scope:Scope} {pos:Pos} {mk first:Sem Value} {g:Comprehension} {gs:List Comprehension} {cl:List (Str × Addr)} {Q:Value → Shared → Prop}
  (hcl:clausesOf e = g :: gs) (hs:∀ x,foldedSetIterable g.iter env x = pure x) (hclos:closureFor scope env = pure cl) (hk:scope.kind = .function) (hn:∀ x ∈ scope.names,x.2 = .local → scope.names.lookup x.1 = some .local)
  (h:wpAny M A first (fun x s1 => wpAny M A (pyIter x) (fun it s2 => wpAny M A mk (fun acc s3 => wpAny M A (newFunctionEnv scope env.globals cl [] env.qual none .none (some env)) (fun cv s4 =>
   codeAny M A (.compStart e 0 it acc { cv with scope:=relabel scope env }) (postX M A E Q acc cv.locals cv.frame) s4) E s3) E s2) E s1) E s) :
  wpAny M A (comprehension e scope env pos mk false first none) Q E s:=by
 unfold comprehension
 rw [hclos,hcl]
 refine wpAny_bind (wpAny_mono h (fun x s1 h1 => wpAny_bind (wpAny_standAt (wpAny_bind (wpAny_of_eq (hs x) (wpAny_bind (wpAny_holding (wpAny_mono h1 (fun it s2 h2 => wpAny_standIf (wpAny_bind (wpAny_mono h2 (fun acc s3 h3 => wpAny_bind (wpAny_pure (wpAny_bind (wpAny_mono h3 (fun cv s4 h4 => ?_) fun _ _ z => z)))) fun _ _ z => z))) fun _ _ z => z))))))) fun _ _ z => z)
 dsimp only
 have hv:∀ x ∈ (scope.names.filter fun x => (x.2 == .local || x.2 == .cell) && x.1 != (".0":Str)).reverse,x.2 = .local → Env.kindOf { cv with scope:=relabel scope env } x.1 = some .local:=fun x hx hl => lookup_relabel_local (hn x (List.mem_filter.mp (List.mem_reverse.mp hx)).1 hl)
 refine wpAny_holding (wpAny_bind (wpAny_attempt (wpAny_holding (wpAny_run (codeAny_mono h4 fun r z hr => ?_)))))
 cases r with
 | ok f =>
  obtain ⟨m,ns,hr⟩:=hr
  exact wpAny_bind (wpAny_holding (wpAny_comp_letGo (cenv:={ cv with scope:=relabel scope env }) hk _ z m hv ns fun h' m' _ sb => wpAny_pure (hr h' sb)))
 | error x =>
  obtain ⟨m,ns,hr⟩:=hr
  exact wpAny_bind (wpAny_holding (wpAny_comp_letGo (cenv:={ cv with scope:=relabel scope env }) hk _ z m hv ns fun h' m' _ sb => wpAny_mono (hr h' sb _ rfl rfl) (fun _ _ f => f.elim) fun _ _ y => y))
noncomputable def cpX (X:Cx) (N':List Str) (scope:Scope) (cl:List (Str × Addr)) (C:Addr) (s₀:Shared) (H₀:Hp) (ex:List Addr) (xe:Value → Shared → Prop):Cx:={ compCx X N' scope cl C s₀ H₀ ex with calm:=false,xe:=xe }
theorem inv_toE {X:Cx} {pins:List (Addr × Obj)} {σ:L2.St} {H:Hp} {s:Shared} {xe:Value → Shared → Prop} (I:Inv X pins σ H s):Inv { X with calm:=false,xe:=xe } pins σ H s :=
 ⟨⟨I.ok.mod,I.ok.kind,I.ok.glob,I.ok.blt,I.ok.above,I.ok.inj,I.ok.has,I.ok.cab,fun z => (nomatch z),I.ok.frames,I.ok.stk,I.ok.exf,I.ok.bs,I.ok.bsz,I.ok.noex,I.ok.exfs,I.ok.funs,I.ok.frf⟩,I.os,I.bare,I.base,I.loc,I.cell,I.free,I.freeC,I.pin,I.hok,I.len⟩
theorem inv_ofE {X:Cx} {pins:List (Addr × Obj)} {σ:L2.St} {H:Hp} {s:Shared} {xe:Value → Shared → Prop} (ok:X.Ok) (I:Inv { X with calm:=false,xe:=xe } pins σ H s):Inv X pins σ H s :=
 ⟨ok,I.os,I.bare,I.base,I.loc,I.cell,I.free,I.freeC,I.pin,I.hok,I.len⟩
noncomputable def Err (X:Cx) (σ:L2.St) (c:T) (H':Hp):Prop:=∀ pins ev z,Flies X pins σ H' c ev z → X.xe ev z
section
variable {X:Cx} {elt iter tg:Expr} {scope:Scope} {pos:Pos} {N':List Str} {g:TG} {mp:List (Option Nat)} {d:D}
noncomputable def tLoop1 (J:It) (mp:List (Option Nat)) (g:TG) (te:TE) (p:Addr) (σ:L2.St) (H:Hp) (Q:VK):Prop:=∃ W:Nat → Nat → L2.St → Hp → Prop,(∃ m,W 0 m (iniV mp σ) (upd H p (.lst []))) ∧ ∀ i m σ H,W i m σ H →
 (J.stop i H ∧ Q (.ref p) H) ∨ (J.go i H ∧ ∃ N:L2.St → Hp → Prop,(∀ σ' H',N σ' H' → ∃ m',m' < m ∧ W (i + 1) m' σ' H') ∧ ∀ x H',J.yld i H x H' → g x σ H' fun σ2 H2 => te σ2 H2 fun y H4 => rAppend (.ref p) [y] H4 fun _ H5 => N σ2 H5)
noncomputable def tLoopX (X:Cx) (J:It) (mp:List (Option Nat)) (g:TG) (d:D) (σ:L2.St) (H:Hp) (Q:VK):Prop:=∀ p,H p = none → ∀ Xe:Cx,Xe.K = X.K → (∀ c H' pins' σ' ev z,Err X σ c H' → Flies Xe pins' σ' H' c ev z → Xe.xe ev z) → tLoop1 J mp g (tD Xe d) p σ H Q
theorem comp_coreX {pins:List (Addr × Obj)} {s₂:Shared} {σ:L2.St} {H₂:Hp} {it:Addr} {fp:List Addr} {tn:Nat → Heap → Prop} {J:It} {cl:List (Str × Addr)} {Q:VK} {E:Value → Shared → Prop}
  (hst:X.stack = X.env :: X.outer) (hfr:X.env.frame = some X.env.locals) (hS:CompScope X N' scope mp) (hcalm:X.calm = true) (hg:∀ cl C s₀ H₀ ex,PG (compCx X N' scope cl C s₀ H₀ ex) tg g) (he:∀ cl C s₀ H₀ ex xe,PE (cpX X N' scope cl C s₀ H₀ ex xe) elt (tD (cpX X N' scope cl C s₀ H₀ ex xe) d))
  (hcl:∀ x c,cl.lookup x = some c → X.env.cells.lookup x = some c) (hcs:∀ x,(x,NameKind.free) ∈ scope.names → (cl.lookup x).isSome = true)
  (I:Inv X pins σ H₂ s₂) (T:Turn X.prog X.w X.K tg J fp it tn) (st:tn 0 s₂.heap) (hf:∀ b ∈ fp,FpOk X pins H₂ b) (hq:tLoopX X J mp g d σ H₂ Q) :
  wpAny (model X.prog X.w) X.A (newList []) (fun acc s₃ => wpAny (model X.prog X.w) X.A (newFunctionEnv scope X.env.globals cl [] X.env.qual none .none (some X.env)) (fun cenv s₄ =>
   codeAny (model X.prog X.w) X.A (.compStart (.ListComp elt [⟨tg,iter,[],0⟩] scope pos) 0 (.ref it) acc { cenv with scope:=relabel scope X.env }) (postX (model X.prog X.w) X.A X.xe (EP X pins σ Q) acc cenv.locals cenv.frame) s₄) E s₃) E s₂:=by
 refine wpAny_newObj_type (newEnv_comp ?_)
 dsimp only
 have I₃:Inv X pins σ (upd H₂ s₂.heap.objs.size (.lst [])) { s₂ with heap:=s₂.heap.push { cls:=.type "list",dict:=none,data:=.seq ([]:List Value).toArray } } :=
  I.lnew (t':=s₂.toks) (ys:=[]) .nil (Nat.zero_le _)
 generalize hH2:s₂.heap.push { cls:=.type "list",dict:=none,data:=.seq ([]:List Value).toArray } = H2 at I₃ ⊢
 obtain ⟨h₁,hh1⟩:∃ h₁,h₁ = pushCells (H2.push { cls:=.type "dict",data:=.dict #[] }) scope.names:=⟨_,rfl⟩
 rw [← hh1]
 have hns₁:h₁.Ns H2.objs.size (fun _ => none):=by rw [hh1]; exact (Heap.Ns.new H2 (.type "dict")).keeps (pushCells_keeps _ _)
 obtain ⟨cl',hcl'⟩:∃ cl',cl' = cellsFrom (H2.objs.size + 1) scope.names cl:=⟨_,rfl⟩
 rw [← hcl']
 have oneC:=one_cell scope.names (H2.objs.size + 1) (H2.push { cls:=.type "dict",data:=.dict #[] }) cl hS.cells hS.nd
 have fc:∀ x,(x,NameKind.free) ∈ scope.names → scope.names.lookup x ≠ some .cell:=fun x hx q => by
  have nd:=hS.nd
  have m2:=PySem.mem_of_lookup q
  have key:∀ l:List (Str × NameKind),(l.map (·.1)).Nodup → (x,NameKind.free) ∈ l → (x,NameKind.cell) ∈ l → False:=by
   intro l
   induction l with
   | nil => intro _ h; cases h
   | cons a l ih =>
    intro nd h1 h2
    have nd':=List.nodup_cons.mp (by simpa using nd:(a.1 :: l.map (·.1)).Nodup)
    rcases List.mem_cons.mp h1 with e1 | h1
    ·rcases List.mem_cons.mp h2 with e2 | h2
     ·rw [← e1] at e2; cases e2
     ·exact nd'.1 (List.mem_map.mpr ⟨_,h2,by rw [← e1]⟩)
    ·rcases List.mem_cons.mp h2 with e2 | h2
     ·exact nd'.1 (List.mem_map.mpr ⟨_,h1,by rw [← e2]⟩)
     ·exact ih nd'.2 h1 h2
  exact key _ nd hx m2
 have hcl0:∀ x c,cl'.lookup x = some c → X.env.cells.lookup x = some c ∨ (scope.names.lookup x = some .cell ∧ c = H2.objs.size + 1 ∧ h₁.IsCell c none ∧ ∀ z,scope.names.lookup z = some .cell → z = x):=fun x c h => by
  cases oneC with
  | no _ e1 _ => rw [hcl'.trans e1] at h; exact .inl (hcl x c h)
  | one y h0 hy e1 e2 =>
   rw [hcl'.trans e1,List.lookup_cons] at h
   cases hb:x == y with
   | true =>
    rw [hb] at h
    have hxy:x = y:=eq_of_beq hb
    have h:some (H2.objs.size + 1) = some c:=h
    cases h
    subst hxy
    refine .inr ⟨hy,rfl,?_,fun z hz => h0 z hz⟩
    rw [hh1.trans e2,← Heap.size_push H2 { cls:=.type "dict",data:=.dict #[] }]
    exact ⟨_,Heap.get?_push_size _ rfl,rfl⟩
   | false => rw [hb] at h; exact .inl (hcl x c h)
 have hcs0:∀ x,(x,NameKind.free) ∈ scope.names → (cl'.lookup x).isSome = true ∧ ∀ c,cl'.lookup x = some c → X.env.cells.lookup x = some c:=fun x hx => by
  have el:cl'.lookup x = cl.lookup x:=by
   cases oneC with
   | no _ e1 _ => rw [hcl'.trans e1]
   | one y h0 hy e1 e2 =>
    rw [hcl'.trans e1,List.lookup_cons]
    cases hb:x == y with
    | true => exact absurd ((eq_of_beq hb) ▸ hy) (fc x hx)
    | false => rfl
  rw [el]
  exact ⟨hcs x hx,fun c hc => hcl x c hc⟩
 have hcn0:∀ x,scope.names.lookup x = some .cell → cl'.lookup x = some (H2.objs.size + 1):=fun x hx => by
  cases oneC with
  | no h0 _ _ => exact absurd hx (h0 x)
  | one y h0 hy e1 e2 =>
   rw [hcl'.trans e1,h0 x hx,List.lookup_cons]
   simp
 have fresh:H₂ s₂.heap.objs.size = none:=I.hok.fresh (Nat.le_refl _)
 have fpl:∀ b ∈ fp,b < s₂.heap.objs.size:=fun b hb => by
  obtain ⟨o,ho,_⟩:=T.obj _ _ st b hb
  exact Heap.lt_size ho
 have hszl:s₂.heap.objs.size ≤ H2.objs.size:=by rw [← hH2,Heap.size_push]; exact Nat.le_succ _
 have old2:∀ b o,s₂.heap.get? b = some o → H2.get? b = some o:=fun b o e => by rw [← hH2]; exact Heap.get?_push_of_some _ e
 have old:∀ b o,H2.get? b = some o → h₁.get? b = some o:=fun b o e => by rw [hh1]; exact pushCells_keeps _ _ _ _ (Heap.get?_push_of_some _ e)
 have hf3:∀ b ∈ fp,FpOk X pins (upd H₂ s₂.heap.objs.size (.lst [])) b:=fun b hb => ⟨by rw [upd_ne (Nat.ne_of_lt (fpl b hb))]; exact (hf b hb).1,(hf b hb).2⟩
 have I₄:=inv_comp (t':=s₂.toks) (N':=N') (C:=H2.objs.size) (h₁:=h₁) hS I₃ hcl0 hcs0 hcn0 rfl old ⟨_,hns₁⟩ hf3 fun b hb => Nat.lt_of_lt_of_le (fpl b hb) hszl
 have st4:tn 0 h₁:=T.keep _ _ _ st fun b hb o e => old b o (old2 b o e)
 generalize hX':compCx X N' scope cl' H2.objs.size { s₂ with heap:=H2 } (upd H₂ s₂.heap.objs.size (.lst [])) fp = X' at I₄
 have hg':PG X' tg g:=hX' ▸ hg _ _ _ _ _
 have e1:X'.prog = X.prog:=by rw [← hX']; rfl
 have e2:X'.w = X.w:=by rw [← hX']; rfl
 have e3:X'.K = X.K:=by rw [← hX']; rfl
 have e4:X'.calm = true:=by rw [← hX']; exact hcalm
 have e5:X'.A = X.A:=by rw [← hX']; rfl
 have e6:X'.env = compEnvC scope cl' H2.objs.size X.env:=by rw [← hX']; rfl
 have e7:X'.xe = fun _ _ => False:=by rw [← hX']; rfl
 have e8:X'.mg = X.mg:=by rw [← hX']; rfl
 have e9:X'.stack = X.stack:=by rw [← hX']; rfl
 have okX':=I₄.ok
 have back:∀ {pins':List (Addr × Obj)} {σ':L2.St} {H0:Hp} {s1:Shared},Inv X' pins' σ' H0 s1 → Inv X pins σ H0 s1 ∧ FpOk X pins H0 H2.objs.size ∧ ∃ m,s1.heap.Ns H2.objs.size m:=fun {pins' σ' H0 s1} I1 => by
  have hC:H0 H2.objs.size = none:=by
   have:=I1.free
   rw [e6] at this
   exact this
  refine ⟨?_,I₃.fpOk (Nat.le_refl _) hC,?_⟩
  ·subst hX'
   exact I₃.call' (ch:=fp) I1.os I1.base I1.hok I1.bare fun b hb => ⟨(hf3 b hb).2.2.2.1,(hf3 b hb).2.1,(hf3 b hb).2.2.2.2.1,(hf3 b hb).2.2.2.2.2⟩
  ·obtain ⟨m,hm,_⟩:=I1.loc
   rw [e6] at hm
   exact ⟨m,hm⟩
 obtain ⟨xe',hxe⟩:∃ xe':Value → Shared → Prop,xe' = notedBy (model X.prog X.w) X.A (compEnvC scope cl' H2.objs.size X.env) fun e z => postX (model X.prog X.w) X.A X.xe (EP X pins σ Q) (.ref s₂.heap.objs.size) H2.objs.size X.env.frame (.error e) z:=⟨_,rfl⟩
 have he':PE { X' with calm:=false,xe:=xe' } elt (tD { X' with calm:=false,xe:=xe' } d):=by
  subst hX'
  exact he _ _ _ _ _ _
 have heart:∀ c H' pins' σ' ev z,Err X σ c H' → Flies { X' with calm:=false,xe:=xe' } pins' σ' H' c ev z → xe' ev z:=by
  rintro c H' pins' σ' ev z hE ⟨n,Cc,rfl,hm,hfl⟩
  rcases hfl with ⟨z1,_⟩ | ⟨H0,s1,I1,hx⟩ | ⟨z1,_⟩
  ·cases z1
  ·obtain ⟨IX,fpC,m,hns⟩:=back (inv_ofE okX' I1)
   obtain ⟨e,t,C',H'',B,rfl,hos,hbare,U2,hok,⟨hE1,hE2⟩,fl0,cov,covT⟩:=hx
   change Un (frs X'.stack) [] H0 H'' s1.heap z.heap at U2
   change Heap.FlyingW B X'.stack e (.ref C') (.ref t) z.heap at fl0
   change ∀ b o,s1.heap.get? b = some o → b ∉ frs X'.stack → ∃ o',B.get? b = some o' at cov
   change HOk X'.prog X'.w H'' z.heap at hok
   change X'.mg n = some (.ref Cc) at hm
   rw [e9] at U2 fl0 cov
   rw [e1,e2] at hok
   rw [e8] at hm
   cases hE1
   subst hE2
   rw [hxe]
   show wpAny _ _ (noteFrame _ _) _ _ _
   rw [note_env (show (compEnvC scope cl' H2.objs.size X.env).frame = X.env.frame from rfl)]
   refine wpAny_looks_onW (outer:=X.outer) (by rw [IX.ok.frames,hst]) hfr (by rw [← hst]; exact fl0) fun h4 held up4 => ?_
   rw [← hst] at held
   obtain ⟨U,hk⟩:=un_held U2 hok fl0.1 fl0.2.2.1 held.1 up4 cov covT
   have nf:H2.objs.size ∉ frs X.stack:=fun q => by
    rcases List.mem_cons.mp (IX.stkSub _ q) with y | y
    ·exact fpC.2.1 y
    ·exact fpC.2.2.1 y
   obtain ⟨oC,es,epn,hoC,rC⟩:=id hns
   refine ⟨m,⟨oC,es,epn,U.keep _ _ hoC fpC.1 nf (by simp),rC⟩,fun h' sb env _ henv => ?_⟩
   refine hel_on hfr henv (Hel.comp (s3:=z) IX fpC hoC hos hbare U hk held cov covT fun b hb => sb.2 b hb) fun h'' hel => ?_
   exact hE pins _ _ ⟨n,Cc,rfl,hm,.inr (.inr ⟨hcalm,e,t,_,rfl,hel⟩)⟩
  ·cases z1
 obtain ⟨Xe,hXe⟩:∃ Xe:Cx,Xe = { X' with calm:=false,xe:=xe' }:=⟨_,rfl⟩
 have he2:PE Xe elt (tD Xe d):=by rw [hXe]; exact he'
 have f1:Xe.prog = X.prog:=by rw [hXe]; exact e1
 have f2:Xe.w = X.w:=by rw [hXe]; exact e2
 have f5:Xe.A = X.A:=by rw [hXe]; exact e5
 have f6:Xe.env = compEnvC scope cl' H2.objs.size X.env:=by rw [hXe]; exact e6
 have f7:Xe.xe = notedBy (model X.prog X.w) X.A (compEnvC scope cl' H2.objs.size X.env) fun e z => postX (model X.prog X.w) X.A X.xe (EP X pins σ Q) (.ref s₂.heap.objs.size) H2.objs.size X.env.frame (.error e) z:=by rw [hXe]; exact hxe
 obtain ⟨W,⟨m0,w0⟩,turn⟩:=hq s₂.heap.objs.size fresh Xe (by rw [hXe]; exact e3) (by rw [hXe]; exact heart)
 have stat:∀ {H':Hp},(∀ b ∈ fp,H' b = none) → ∀ b ∈ fp,FpOk X' [] H' b:=fun {H'} hn b hb => by
  refine ⟨hn b hb,?_,?_,?_,fun x c h => ?_,fun p hp => ?_⟩
  ·rw [e6]; exact Nat.ne_of_lt (Nat.lt_of_lt_of_le (fpl b hb) hszl)
  ·rw [← hX']
   intro hs
   rcases List.mem_cons.mp (I.stkSub b hs) with z | z
   ·exact (hf b hb).2.1 z
   ·exact (hf b hb).2.2.1 z
  ·rw [← hX']; exact .inl hb
  ·rw [e6] at h
   rcases hcl0 x c h with a | ⟨_,a,_⟩
   ·exact (hf b hb).2.2.2.2.1 x c a
   ·rw [a]
    have q1:=Nat.lt_of_lt_of_le (fpl b hb) hszl
    exact fun q => absurd (q ▸ q1) (Nat.not_lt.mpr (Nat.le_succ _))
  ·rw [← hX'] at hp; cases hp
 have loop:∀ s₃:Shared,Inv X' [] (iniV mp σ) (upd H₂ s₂.heap.objs.size (.lst [])) s₃ → tn 0 s₃.heap →
   codeAny (model X.prog X.w) X.A (.compLoop (.ListComp elt [⟨tg,iter,[],0⟩] scope pos) 0 (.ref it) (.ref s₂.heap.objs.size) (compEnvC scope cl' H2.objs.size X.env)) (postX (model X.prog X.w) X.A X.xe (EP X pins σ Q) (.ref s₂.heap.objs.size) H2.objs.size X.env.frame) s₃:=by
  intro s₃ I₃' st3
  refine compLoop_genX (fun n s' => ∃ i σ' H',Inv X' [] σ' H' s' ∧ tn i s'.heap ∧ (∀ b ∈ fp,H' b = none) ∧ W i n σ' H') ?_ m0 ⟨0,_,_,I₃',st3,fun b hb => (hf3 b hb).1,w0⟩
  rintro n s4 ⟨i,σ4,H4,I4,st4,fr4,w4⟩
  rcases turn i n σ4 H4 w4 with ⟨stop,qn⟩ | ⟨go,N,hN,step⟩
  ·have q:=T.done X' e1 e2 e3 e4 i [] s4 σ4 H4 (fun _ _ => False) I4 (stat fr4) st4 stop
   rw [e5] at q
   refine thn q fun r s5 hX11_ => ?_
   obtain ⟨hr,I5⟩:=hX11_
   subst hr
   obtain ⟨I6,fpC,m,hm⟩:=back I5
   refine ⟨m,hm,fun h' sb => ⟨.ref s₂.heap.objs.size,H4,?_,rfl,qn⟩⟩
   exact I6.turned (t':=s5.toks) (fun b o hb e => (sb.2 b hb).trans e) fpC.1 fpC.2.1 fpC.2.2.2.1 fpC.2.2.2.2.1 fpC.2.2.2.2.2
  ·have q:=T.item X' e1 e2 e3 e4 i [] s4 σ4 H4 (fun _ _ => False) I4 (stat fr4) st4 go
   rw [e5] at q
   refine thn q fun r s5 hX21_ => ?_
   obtain ⟨u,hr,h5⟩:=hX21_
   subst hr
   refine thn h5 fun _ s6 hX31_ => ?_
   obtain ⟨x,H6,I6,r6,y6,st6,fr6⟩:=hX31_
   have I6':=I6.pinned (stat fr6) (T.obj _ _ st6)
   have g6:=hg' _ s6 σ4 H6 x u _ I6' r6 (step x H6 y6)
   rw [e1,e2,e5,e6,e7] at g6
   refine thn g6 fun _ s7 hX41_ => ?_
   obtain ⟨σ7,H7,I7,q7⟩:=hX41_
   refine wpAny_tests_nil ?_
   rw [if_pos rfl]
   have again:∀ {s9:Shared} {σ9:L2.St} {H9:Hp},Inv X' ([] ++ pinsAt fp s6.heap) σ9 H9 s9 → N σ9 H9 → ∃ m,m < n ∧ ∃ i σ' H',Inv X' [] σ' H' s9 ∧ tn i s9.heap ∧ (∀ b ∈ fp,H' b = none) ∧ W i m σ' H':=fun {s9 σ9 H9} I9 n9 => by
    obtain ⟨m',hm,w9⟩:=hN σ9 H9 n9
    refine ⟨m',hm,i + 1,σ9,H9,I9.unpinned,T.keep _ _ _ st6 fun b hb o e => (I9.pin (b,o) (List.mem_append_right _ (List.mem_append_right _ (mem_pinsAt hb e)))).1,fun b hb => ?_,w9⟩
    obtain ⟨o,e,d⟩:=T.obj _ _ st6 b hb
    exact (I9.pin (b,o) (List.mem_append_right _ (List.mem_append_right _ (mem_pinsAt hb e)))).2.1
   have l8:=he2 _ s7 σ7 H7 _ (by rw [hXe]; exact inv_toE I7) q7
   rw [f1,f2,f5,f6,f7] at l8
   refine thn l8 fun y s9 hX51_ => ?_
   obtain ⟨z,H9,I9,r9,q9⟩:=hX51_
   have a9:=(mt_append (X:=X')) _ s9 σ7 H9 (.ref s₂.heap.objs.size) [z] (.ref s₂.heap.objs.size) [y] _ (inv_ofE okX' (hXe ▸ I9)) rfl (.cons r9 .nil) q9
   rw [e1,e2,e5,e7] at a9
   refine thn a9 fun _ s10 ⟨_,H10,I10,_,q10⟩ => again I10 q10
 refine codeAny_compStart_list (loop _ I₄ st4) ?_
 exact T.self X.A 0 _ _ _ st4 (loop _ I₄ st4)
theorem pe_compX {wi:TI} (hst:X.stack = X.env :: X.outer) (hfr:X.env.frame = some X.env.locals) (hS:CompScope X N' scope mp) (hcalm:X.calm = true) (hi:PI X tg iter wi) (hg:∀ cl C s₀ H₀ ex,PG (compCx X N' scope cl C s₀ H₀ ex) tg g)
  (he:∀ cl C s₀ H₀ ex xe,PE (cpX X N' scope cl C s₀ H₀ ex xe) elt (tD (cpX X N' scope cl C s₀ H₀ ex xe) d)) (hs:∀ x,foldedSetIterable iter X.env x = pure x:=by intro _; rfl) :
  PE X (.ListComp elt [⟨tg,iter,[],0⟩] scope pos) (fun σ H Q => wi σ H fun J H1 => tLoopX X J mp g d σ H1 Q):=by
 intro pins s σ H Q I h
 have hfr':∀ y ∈ scope.names,y.2 = .free → ∃ c,X.env.cells.lookup y.1 = some c:=fun y hy hk => I.ok.has y.1 (hS.free y hy hk)
 obtain ⟨cl,hcl,h1,h2⟩:=closure_ok hfr'
 rw [eval_ListComp]
 refine comp_own rfl hs hcl hS.kind hS.loc (thn (hi pins s σ H _ I h) fun v s1 q1 => thn q1 fun itv s2 hX11_ => ?_)
 obtain ⟨it,fp,tn,J,H2,e,I2,T,st2,f2,q2⟩:=hX11_
 subst e
 exact comp_coreX hst hfr hS hcalm hg he h1 h2 I2 T st2 f2 q2
end
end L2
namespace Fw
open PySem
open Classical in
noncomputable def compX (same:Store → Prop) (b:BD) (d:D) (e:Slots):List T → Store → R (List T)
 | [],μ => if same μ then .ok [] μ else .bad
 | t :: ts,μ => if same μ then
   match b t e with
   | none => .bad
   | some e1 => (d e1 μ).bind fun y μ2 => (frz y μ2).bind fun u μ3 => (compX same b d e ts μ3).bind fun us μ4 => .ok (u :: us) μ4
  else .bad
noncomputable def dCompX (it:DI) (mp:List (Option Nat)) (b:BD) (d:D):D:=fun e μ => (it e μ).bind fun W μ1 => if W.items.length ≤ szL then (compX W.same b d (ini mp e) W.items μ1).bind fun us μ2 => .ok (.val (.lst us)) μ2 else .bad
theorem dCompX_is (it:DI) (mp:List (Option Nat)) (b:BD) (d:D) (e:Slots) (μ:Store):dCompX it mp b d e μ = (it e μ).bind fun W μ1 => if W.items.length ≤ szL then (compX W.same b d (ini mp e) W.items μ1).bind fun us μ2 => .ok (.val (.lst us)) μ2 else .bad:=(rfl)
end Fw
namespace Fw
open PySem
noncomputable def fStrA:T → Option T
 | .int i => if i.natAbs.log2 < 1920 then some (.str (toString i)) else none
 | .str x => some (.str x)
 | .non => some (.str "None")
 | _ => none
end Fw
namespace Fw
open PySem
noncomputable def fSigns:T → Option T
 | .str x => if x.length ≤ szL then some (.lst (x.cps.toList.map fun c => .str ⟨#[c]⟩)) else none
 | _ => none
end Fw
namespace Fw
open PySem L2 PyProof.Rows
section
variable {X:Cx} {di:DI} {mp:List (Option Nat)} {b:BD} {d:D}
inductive CIx (K:PySem.W.Frag) (same:Store → Prop) (items:List T) (b:BD) (d:D) (e0:Slots) (PF:List T → Store → Prop) (EX:T → Store → Prop) (F1:Hp) (α1:List Addr) (H1:Hp) (p:Addr) (i:Nat) (σ':L2.St) (Hc:Hp):Prop
 | mk (F2:Hp) (α2:List Addr) (μ3:Store) (done:List T) (vs:List V) (x2:Ex F1 α1 H1 F2 α2 Hc) (S2:Sim K F2 α2 e0 μ3 σ' Hc) (n1:F2 p = none) (n2:p ∉ α2) (hv:Hc p = some (.lst vs)) (hr:RepL K F2 done vs) (hdl:done.length ≤ i)
  (hw:(compX same b d e0 (items.drop i) μ3).wp (fun rest μ' => PF (done ++ rest) μ') EX)
theorem comp_readX {σ:L2.St} {H:Hp} {Q:VK} (hb:Leaves mp b) (h:tF X (dCompX di mp b d) σ H Q):tDI X di σ H fun J H1 => tLoopX X J mp (tBd X.K b) d σ H1 Q:=by
 obtain ⟨F,α,e,μ,S,h⟩:=h
 rw [dCompX_is] at h
 refine ⟨F,α,e,μ,S,(R.wp_bind h).mono (fun W μ1 h J H1 F1 α1 x1 S1 ok => ?_) fun _ _ h => h⟩
 by_cases hz:W.items.length ≤ szL
 ·rw [if_pos hz] at h
  have h:=R.wp_bind h
  have h:(compX W.same b d (ini mp e) W.items μ1).wp (fun us μ' => ∀ p H' F' α',Ex F α H F' α' H' → Sim X.K F' α' e μ' σ H' → H p = none → F' p = none → p ∉ α' → CellOk X.K F' H' p (.lst us) → Q (.ref p) H') (XPost X F α H e) :=
   h.mono (fun us μ' h => by
    obtain ⟨t,et,post⟩:=h
    cases et
    exact post) fun _ _ h => h
  intro p hp Xe hK heart
  refine ⟨fun i m σ' Hc => m = W.items.length - i ∧ i ≤ W.items.length ∧ CIx X.K W.same W.items b d (ini mp e) (fun us μ' => ∀ p H' F' α',Ex F α H F' α' H' → Sim X.K F' α' e μ' σ H' → H p = none → F' p = none → p ∉ α' → CellOk X.K F' H' p (.lst us) → Q (.ref p) H') (XPost X F α H e) F1 α1 H1 p i σ' Hc,
   ⟨_,rfl,Nat.zero_le _,.mk F1 α1 μ1 [] [] (Ex.lay hp) ((S1.ini mp).of (Same.refl _) (List.prefix_refl _) (S1.st.lay hp)) (S1.st.ext.free hp) (not_mem_of_none S1.st hp) upd_same RepL.nil' (Nat.zero_le _) h⟩,?_⟩
  rintro i m σ2 H2 ⟨rfl,hi',hC⟩
  obtain ⟨F2,α2,μ3,done,vs,x2,S2,n1,n2,hv,hr,hdl,hw⟩:=hC
  by_cases hlt:i < W.items.length
  ·rw [List.drop_eq_getElem_cons hlt] at hw
   unfold compX at hw
   by_cases hs:W.same μ3
   ·rw [if_pos hs] at hw
    obtain ⟨g1,g2⟩:=ok F2 α2 μ3 H2 x2.same x2.pre S2.st hs
    obtain ⟨go,yl⟩:=g1 i W.items[i] (by simp [hlt])
    cases hb':b W.items[i] (ini mp e) with
    | none => simp only [hb'] at hw; exact hw.elim
    | some e3 =>
     simp only [hb'] at hw
     obtain ⟨hl3,hb3⟩:=hb _ _ _ hb'
     refine .inr ⟨go,CIx X.K W.same W.items b d (ini mp e) _ (XPost X F α H e) F1 α1 H1 p (i + 1),fun σ' H' q => ⟨W.items.length - (i + 1),by lia,rfl,hlt,q⟩,fun x H3 yy => ?_⟩
     obtain ⟨F3,gr,rp⟩:=yl x H3 yy
     have x3:Ex F2 α2 H2 F3 α2 H3:=gr.ex S2.st.ext
     refine ⟨F3,α2,ini mp e,μ3,W.items[i],e3,S2.grow gr,rp,hb',fun σ4 S4 => ?_⟩
     obtain ⟨v3,n3,m3⟩:=x3.fr p _ hv n1 n2
     refine ⟨F3,α2,e3,μ3,by rw [hK]; exact S4,?_⟩
     have hw:=R.wp_bind hw
     cases hd:d e3 μ3 with
     | bad => rw [hd] at hw; exact hw.elim
     | err c μ6 =>
      rw [hd] at hw
      rintro ev z ⟨pins',σ',H',F',α',x',S',fl⟩
      refine heart c H' pins' σ' ev z (fun pins ev z hfl => ?_) fl
      rw [hK] at S'
      have xx:Ex F1 α1 H1 F' α' H':=x2.trans (x3.trans x')
      exact hw ev z ⟨pins,σ,H',F',α',x1.trans xx,S1.of xx.same xx.pre S'.st,hfl⟩
     | ok y2 μ6 =>
      rw [hd] at hw
      intro v H6 F6 α6 x6 S6 o6
      rw [hK] at S6 o6
      have hw:=R.wp_bind hw
      obtain ⟨v6,n6,m6⟩:=x6.fr p _ v3 n3 m3
      cases hfz:frz y2 μ6 with
      | bad => rw [hfz] at hw; exact hw.elim
      | err c2 μ7 => exact absurd hfz (frz_no y2 μ6 c2 μ7)
      | ok u μ7 =>
       rw [hfz] at hw
       have hw:=R.wp_bind hw
       obtain ⟨F7,s7,ne7,S7,r7⟩:=frz_ok S6.st o6 hfz
       have hvl:vs.length < sizeLine:=by
        have:=hr.length
        have hz':W.items.length ≤ sizeLine:=hz
        lia
       have n7:F7 p = none:=by rw [ne7 p m6]; exact n6
       have x7:Ex F1 α1 H1 F7 α6 H6:=x2.trans (x3.trans (x6.trans (Ex.of_ne s7 ne7)))
       refine ⟨p,vs,v,rfl,rfl,v6,hvl,.mk F7 α6 μ7 (done ++ [u]) (vs ++ [v]) (x7.poke hp) ?_ n7 m6 upd_same ?_ ?_ ?_⟩
       ·exact ((S6.back hl3 hb3).of s7 (List.prefix_refl _) S7).of (Same.refl _) (List.prefix_refl _) (S7.poke n7 m6)
       ·exact (RepL.mono (x3.same.trans (x6.same.trans s7)) _ _ hr).append (RepL.one r7)
       ·rw [List.length_append,List.length_singleton]; lia
       ·refine hw.mono (fun rest μ' h => ?_) fun _ _ h => h
        rw [List.append_assoc]; exact h
   ·rw [if_neg hs] at hw; exact hw.elim
  ·have e1:i = W.items.length:=by lia
   subst e1
   rw [List.drop_length] at hw
   unfold compX at hw
   by_cases hs:W.same μ3
   ·rw [if_pos hs] at hw
    obtain ⟨g1,g2⟩:=ok F2 α2 _ H2 x2.same x2.pre S2.st hs
    refine .inl ⟨g2,hw p H2 F2 α2 (x1.trans x2) (S1.of x2.same x2.pre S2.st) (x1.was S1.st hp) n1 n2 ⟨vs,hv,?_⟩⟩
    rw [List.append_nil]; exact hr
   ·rw [if_neg hs] at hw; exact hw.elim
 ·rw [if_neg hz] at h; exact h.elim
theorem dCompX_val {e:Slots} {μ μ':Store} {x:SV} (h:dCompX di mp b d e μ = .ok x μ'):∃ t,x = .val t:=by
 unfold dCompX at h
 obtain ⟨W,μ1,hW,h⟩:=R.bind_eq_ok h
 by_cases hz:W.items.length ≤ szL
 ·rw [if_pos hz] at h
  obtain ⟨us,μ2,hL,h⟩:=R.bind_eq_ok h
  cases h; exact ⟨_,rfl⟩
 ·rw [if_neg hz] at h; cases h
theorem cf_compX {elt iter tg:Expr} {scope:Scope} {pos:Pos} {N':List Str} (hS:CompScope X N' scope mp) (hcalm:X.calm = true) (hb:Leaves mp b) (hi:CI X tg iter di) (hg:∀ cl C s₀ H₀ ex,CB (compCx X N' scope cl C s₀ H₀ ex) tg b)
  (he:∀ cl C s₀ H₀ ex xe,CE (cpX X N' scope cl C s₀ H₀ ex xe) elt d) (hst:X.stack = X.env :: X.outer:=by rfl) (hfr:X.env.frame = some X.env.locals:=by rfl) (hs:∀ x,foldedSetIterable iter X.env x = pure x:=by intro _; rfl) :
  CF X (.ListComp elt [⟨tg,iter,[],0⟩] scope pos) (dCompX di mp b d) :=
 ⟨PE.imp (pe_compX hst hfr hS hcalm hi (g:=tBd X.K b) hg he hs) fun σ H Q q => comp_readX hb q,fun _ _ _ _ h => dCompX_val h⟩
end
end Fw
namespace L2
open PySem PySem.Spec PyProof.Rows Fw
section
variable {X:Cx}
noncomputable def rStrA (xs:List V) (H:Hp) (Q:VK):Prop:=(∃ i:Int,xs = [.int i] ∧ i.natAbs.log2 < 1920 ∧ Q (.str (toString i)) H) ∨ (∃ x,xs = [.str x] ∧ Q (.str x) H) ∨ (xs = [.non] ∧ Q (.str "None") H)
theorem call_strA:CallR X (.type "str") rStrA:=by
 intro pins s σ H xs us Q I r h
 rcases h with ⟨i,rfl,hz,q⟩ | ⟨x,rfl,q⟩ | ⟨rfl,q⟩
 ·obtain ⟨u,rfl,t,rfl⟩:=vals1 r
  exact PySem.P.str_of_int hz ⟨.str _,H,I.tok _,⟨_,rfl⟩,q⟩
 ·obtain ⟨u,rfl,t,rfl⟩:=vals1 r
  exact PySem.P.str_of_str ⟨.str _,H,I,⟨_,rfl⟩,q⟩
 ·obtain ⟨u,rfl,ru⟩:=vals1 r
  cases ru
  exact PySem.P.str_of_none ⟨.str _,H,I.tok _,⟨_,rfl⟩,q⟩
end
end L2
namespace Fw
open PySem L2 PyProof.Rows
section
variable {X:Cx} {a b:Expr} {da db:D} {p pos:Pos}
theorem ce_strA (hm:X.mg "str" = none) (ha:CE X a da) (hg:Gl X "str":=by rfl) (hs1:starEach [a] X.env = (false,eval a X.env) :: starEach [] X.env:=by rfl) (hpl:(backTo pos (starEach [] X.env)).any (·.1) = false:=by rfl) :
  CE X (.Call (.Name "str" p) [a] [] pos) (dUn fStrA da):=ce_ty1 call_strA (by
 intro F H v t w Q s hv hw q
 cases t with
 | int i =>
  cases hv.int
  have hw:(if i.natAbs.log2 < 1920 then some (T.str (toString i)) else none) = some w:=hw
  by_cases hz:i.natAbs.log2 < 1920
  ·rw [if_pos hz] at hw
   cases hw
   exact .inl ⟨i,rfl,hz,q _ H F Grow.refl (Rep.str' _)⟩
  ·rw [if_neg hz] at hw; cases hw
 | str x =>
  cases hw
  cases hv.str
  exact .inr (.inl ⟨x,rfl,q _ H F Grow.refl (Rep.str' _)⟩)
 | non =>
  cases hw
  have hv:v = V.non:=hv
  subst hv
  exact .inr (.inr ⟨rfl,q _ H F Grow.refl (Rep.str' _)⟩)
 | _ => cases hw) hm (by decide +kernel) ha hg (by decide) (by decide) hs1 hpl
theorem ce_intS (hm:X.mg "int" = none) (ha:CE X a da) (hg:Gl X "int":=by rfl) (hs1:starEach [a] X.env = (false,eval a X.env) :: starEach [] X.env:=by rfl) (hpl:(backTo pos (starEach [] X.env)).any (·.1) = false:=by rfl) :
  CE X (.Call (.Name "int" p) [a] [] pos) (dUn fIntS da):=ce_ty1 call_intS sem_intS hm (by decide +kernel) ha hg (by decide) (by decide) hs1 hpl
theorem ce_split {apos cpos:Pos} (ho:CE X a da) (he:CE X b db) (hbase:attributeBase a "split" X.env (eval a X.env) = eval a X.env:=by rfl)
  (hfew:((backTo cpos (starEach [b] X.env)).all (fun x => !x.1) && (backToKw cpos (keywordEach [] X.env)).all (fun x => x.1.isSome) && decide (([b]:List Expr).length + ([]:List Keyword).length + (if ([]:List Keyword).isEmpty then 0 else 1) < 30)) = true:=by rfl)
  (hline:(apos.endLine == cpos.line) = true:=by rfl) (hs1:starEach [b] X.env = (false,eval b X.env) :: starEach [] X.env:=by rfl) (hpl:(backTo cpos (starEach [] X.env)).any (·.1) = false:=by rfl) :
  CE X (.Call (.Attribute a "split" apos) [b] [] cpos) (dMeth splitT da db):=ce_meth PySem.F.slot_str_split PySem.F.type_str_split mt_split sem_split ho he hbase hfew hline hs1 hpl
end
end Fw
namespace L2
open PySem PySem.Spec PyProof.Rows Fw
theorem vals_signs:∀ (cs:List Nat) (vs:List Value),vs.length = cs.length → (∀ (j:Nat) (v:Value),vs[j]? = some v → ∃ c t,cs[j]? = some c ∧ v = .str ⟨#[c]⟩ t) → Vals (cs.map fun c => V.str ⟨#[c]⟩) vs
 | [],[],_,_ => .nil
 | [],v :: vs,h,_ => by cases h
 | c :: cs,[],h,_ => by cases h
 | c :: cs,v :: vs,h,k => by
  obtain ⟨c',t,e,rfl⟩:=k 0 v rfl
  cases e
  exact .cons ⟨t,rfl⟩ (vals_signs cs vs (by simpa using h) fun j u hu => k (j + 1) u hu)
noncomputable def rListS (xs:List V) (H:Hp) (Q:VK):Prop:=∃ x,xs = [.str x] ∧ x.length ≤ sizeLine ∧ ∀ q,H q = none → Q (.ref q) (upd H q (.lst (x.cps.toList.map fun c => V.str ⟨#[c]⟩)))
theorem call_listS {X:Cx} (hc:X.calm = true):CallR X (.type "list") rListS:=by
 intro pins s σ H xs us Q I r h
 obtain ⟨x,rfl,hz,q⟩:=h
 obtain ⟨u,rfl,t,rfl⟩:=vals1 r
 refine call_list_str (I.ok.hd hc) x t (fun h' tk acc c keep new it => ?_) hz
 refine ⟨.ref s.heap.objs.size,_,I.laid (a:=s.heap.objs.size) (o:=.lst (x.cps.toList.map fun c => V.str ⟨#[c]⟩)) (t':=tk) keep (Nat.le_refl _) ⟨?_,acc.toList,c,?_,?_⟩,rfl,q _ (I.hok.fresh (Nat.le_refl _))⟩
 ·rw [List.length_map,Array.length_toList]; exact hz
 ·refine vals_signs _ _ (by rw [Array.length_toList,Array.length_toList]; exact it.1) fun j v hv => ?_
  obtain ⟨c',t',e,e2⟩:=it.2 j v (by rw [← Array.getElem?_toList]; exact hv)
  exact ⟨c',t',by rw [Array.getElem?_toList]; exact e,e2⟩
 ·simpa using new
end L2
namespace Fw
open PySem L2 PyProof.Rows
theorem cf_listS {X:Cx} {a:Expr} {da:D} {p pos:Pos} (hm:X.mg "list" = none) (ha:CE X a da) (hc:X.calm = true:=by rfl) (hg:Gl X "list":=by rfl) (hs1:starEach [a] X.env = (false,eval a X.env) :: starEach [] X.env:=by rfl) (hpl:(backTo pos (starEach [] X.env)).any (·.1) = false:=by rfl) :
  CF X (.Call (.Name "list" p) [a] [] pos) (dUn fSigns da):=cf_ty1 (call_listS hc) (by
 intro F H v t w Q s hv hw q
 cases t with
 | str x =>
  have hw:(if x.length ≤ szL then some (T.lst (x.cps.toList.map fun c => .str ⟨#[c]⟩)) else none) = some w:=hw
  by_cases hz:x.length ≤ szL
  ·rw [if_pos hz] at hw
   cases hw
   cases hv.str
   refine ⟨x,rfl,hz,fun l hp => q l _ hp ⟨_,upd_same,?_⟩⟩
   generalize x.cps.toList = cs
   induction cs with
   | nil => exact RepL.nil'
   | cons c cs ih => exact (RepL.one (Rep.str' _)).append ih
  ·rw [if_neg hz] at hw; cases hw
 | _ => cases hw) hm (by decide +kernel) ha hg (by decide) (by decide) hs1 hpl
end Fw
namespace L2
open PySem PySem.Spec PyProof.Rows
section
variable {prog:Program} {w:World} {A:Around} {E:Value → Shared → Prop} {s:Shared}
noncomputable abbrev IsZipO (h:Heap) (z TI TO a:Addr) (f:Bool):Prop:=h.get? z = some { cls:=.type "zip",dict:=none,data:=.fields #[rawInt a,.bool f,.bool false,.ref TI,.ref TO],slots:=#[] }
structure ZOA (z TI i1 i2 l1 l2:Addr):Prop where
 TIz:TI ≠ z
 i1z:i1 ≠ z
 i2z:i2 ≠ z
 i12:i1 ≠ i2
 l1z:l1 ≠ z
 l1i1:l1 ≠ i1
 l2z:l2 ≠ z
 l2i1:l2 ≠ i1
end
section
variable {X:Cx} {pins:List (Addr × Obj)} {σ:L2.St} {H:Hp} {s:Shared}
structure ZO (k1 k2:Bool) (z TI TO i1 i2 l1 l2:Addr) (i:Nat) (H:Hp) (h:Heap):Prop where
 zz:IsZip h z TI TO .none ∨ ∃ a f ws,H a = some (.tup ws) ∧ IsZipO h z TI TO a f
 ti:IsPair h TI (.ref i1) (.ref i2)
 to:∃ a b,IsPair h TO a b
 one:KIt k1 h i1 l1 i
 two:KIt k2 h i2 l2 i
theorem ZO.keep {k1 k2:Bool} {z TI TO i1 i2 l1 l2:Addr} {i:Nat} {h h':Heap} (st:ZO k1 k2 z TI TO i1 i2 l1 l2 i H h) (k:∀ b ∈ [z,TI,TO,i1,i2],∀ o,h.get? b = some o → h'.get? b = some o):ZO k1 k2 z TI TO i1 i2 l1 l2 i H h':=by
 obtain ⟨a,b,hto⟩:=st.to
 refine ⟨?_,k TI (.tail _ (.head _)) _ st.ti,⟨a,b,k TO (.tail _ (.tail _ (.head _))) _ hto⟩,st.one.at fun o e => k i1 (.tail _ (.tail _ (.tail _ (.head _)))) o e,st.two.at fun o e => k i2 (.tail _ (.tail _ (.tail _ (.tail _ (.head _))))) o e⟩
 rcases st.zz with hz | ⟨c,f,ws,hc,hz⟩
 ·exact .inl (k z (.head _) _ hz)
 ·exact .inr ⟨c,f,ws,hc,k z (.head _) _ hz⟩
theorem ZO.apart {k1 k2:Bool} {z TI TO i1 i2 l1 l2:Addr} {i:Nat} {xs ys:List V} (d1:TI ≠ TO) (d2:i1 ≠ i2) (I:Inv X pins σ H s) (hf:∀ b ∈ [z,TI,TO,i1,i2],FpOk X pins H b) (st:ZO k1 k2 z TI TO i1 i2 l1 l2 i H s.heap) (h1:KSqV X.K k1 H l1 xs) (h2:KSqV X.K k2 H l2 ys) :
  ZipApart z TI TO i1 i2 l1 l2 ∧ ZOA z TI i1 i2 l1 l2:=by
 obtain ⟨a,b,hto⟩:=st.to
 obtain ⟨o1,e1,q1⟩:=st.one.ob
 obtain ⟨o2,e2,q2⟩:=st.two.ob
 obtain ⟨oz,vz,ez,qz,sz⟩:∃ (oz:Obj) (vz:Array Value),s.heap.get? z = some oz ∧ oz.data = .fields vz ∧ vz.size = 5:=by
  rcases st.zz with hz | ⟨c,f,ws,hc,hz⟩
  ·exact ⟨_,_,hz,rfl,rfl⟩
  ·exact ⟨_,_,hz,rfl,rfl⟩
 have neP:∀ {c d:Addr} {o:Obj} {u v:Value} {vs:Array Value},IsPair s.heap c u v → s.heap.get? d = some o → o.data = .fields vs → c ≠ d:=fun {c d o u v vs} hp ho hd e => by
  subst e
  have hp:s.heap.get? c = some { cls:=.type "tuple",data:=.seq #[u,v] }:=hp
  rw [hp] at ho; cases ho; cases hd
 have neZ:∀ {d:Addr} {l:Addr} {o:Obj} {n:Nat},s.heap.get? d = some o → o.data = .fields #[.ref l,.int n 0] → d ≠ z:=fun {d l o n} ho hd e => by
  subst e
  rw [ez] at ho; cases ho
  rw [qz] at hd
  have:vz = #[.ref l,.int n 0]:=by injection hd
  rw [this] at sz
  exact absurd sz (by simp)
 have w:∀ c ∈ [z,TI,TO,i1,i2],l1 ≠ c ∧ l2 ≠ c:=fun c hc => ⟨ksqv_own I h1 (hf c hc),ksqv_own I h2 (hf c hc)⟩
 have D:ZipApart z TI TO i1 i2 l1 l2:={ TIz:=neP st.ti ez qz,TOz:=neP hto ez qz,i1z:=neZ e1 q1,i2z:=neZ e2 q2,TITO:=d1,TIi1:=neP st.ti e1 q1,TIi2:=neP st.ti e2 q2,TOi1:=neP hto e1 q1,TOi2:=neP hto e2 q2,i12:=d2,l1z:=(w z (.head _)).1,l1TO:=(w TO (.tail _ (.tail _ (.head _)))).1,l1i1:=(w i1 (.tail _ (.tail _ (.tail _ (.head _))))).1,l1i2:=(w i2 (.tail _ (.tail _ (.tail _ (.tail _ (.head _)))))).1,l2z:=(w z (.head _)).2,l2TO:=(w TO (.tail _ (.tail _ (.head _)))).2,l2i1:=(w i1 (.tail _ (.tail _ (.tail _ (.head _))))).2,l2i2:=(w i2 (.tail _ (.tail _ (.tail _ (.tail _ (.head _)))))).2 }
 exact ⟨D,⟨D.TIz,D.i1z,D.i2z,D.i12,D.l1z,D.l1i1,D.l2z,D.l2i1⟩⟩
end
end L2
namespace L2
open PySem PySem.Spec PyProof.Rows
end L2
namespace Fw
open PySem PySem.Spec PyProof.Rows L2
end Fw
namespace L2
open PySem PySem.Spec PyProof.Rows
end L2
namespace Fw
open PySem PySem.Spec PyProof.Rows L2
end Fw
namespace Fw.k91
open PySem Fw
noncomputable def b_is_whole:DS :=
 (sRet (dAnd (dIs .int (dVar 0)) (dNot (dIs .bool (dVar 0)))))
noncomputable def fV_is_whole:FN:=fnV 1 b_is_whole
noncomputable def b_is_prime:DS :=
 (sSeq (sIf (dOr (dNot (dCall (cal fV_is_whole) [(dVar 0)])) (dOr (dBin fLt (dVar 0) (dC (.int 2))) (dBin fGt (dVar 0) (dC (.int 97))))) (sRet (dC (.bl false))) sNil)
 (sRet (dUn fAll (dComp (iRange2 (dC (.int 2)) (dVar 0)) [none,some 0] (bName 0) (dC (.bl true)) (dBin fNe (dBin fMod (dVar 1) (dVar 0)) (dC (.int 0)))))))
noncomputable def fV_is_prime:FN:=fnV 1 b_is_prime
noncomputable def b_show_words:DS :=
 (sRet (dMeth joinT (dC (.str " ")) (dComp (iSeq (dVar 0)) [none] (bName 0) (dC (.bl true)) (dUn fStrA (dVar 0)))))
noncomputable def fV_show_words:FN:=fnV 1 b_show_words
noncomputable def b_show_row:DS :=
 (sRet (dCall (cal fV_show_words) [(dBin fAdd (dLst [(dIdx (dC (.str "abcdefghijklmnopqrstuvwxyz")) (dIdx (dVar 0) (dC (.int 0))))]) (dUn fList (dIdx (dVar 0) (dC (.int 1)))))]))
noncomputable def fV_show_row:FN:=fnV 1 b_show_row
noncomputable def b_show_table:DS :=
 (sRet (dMeth joinT (dC (.str "; ")) (dBin fAdd (dLst [(dUn fStr (dIdx (dVar 0) (dC (.int 0)))),(dUn fStr (dIdx (dVar 0) (dC (.int 1))))]) (dComp (iSeq (dIdx (dVar 0) (dC (.int 2)))) [none] (bName 0) (dC (.bl true)) (dCall (cal fV_show_row) [(dVar 0)])))))
noncomputable def fV_show_table:FN:=fnV 1 b_show_table
noncomputable def b_is_number:DS :=
 (sSeq (sIf (dOr (dBin fEq (dVar 0) (dC (.str ""))) (dBin fGt (dLen (dVar 0)) (dC (.int 60)))) (sRet (dC (.bl false))) sNil)
 (sSeq (sIf (dAnd (dBin fEq (dIdx (dVar 0) (dC (.int 0))) (dC (.str "0"))) (dBin fNe (dVar 0) (dC (.str "0")))) (sRet (dC (.bl false))) sNil)
 (sRet (dUn fAll (dComp (iStr (dVar 0)) [none] (bName 0) (dC (.bl true)) (dBin fInS (dVar 0) (dC (.str "0123456789"))))))))
noncomputable def fV_is_number:FN:=fnV 1 b_is_number
noncomputable def b_read_number:DS :=
 (sSeq (sIf (dOr (dNot (dCall (cal fV_is_number) [(dVar 0)])) (dNot (dChain fLe fLe (dVar 1) (dUn fIntS (dVar 0)) (dVar 2)))) sBad sNil)
 (sRet (dUn fIntS (dVar 0))))
noncomputable def fV_read_number:FN:=fnV 3 b_read_number
noncomputable def bX_read_number:DS :=
 (sSeq (sIf (dOr (dNot (dCall (cal fV_is_number) [(dVar 0)])) (dNot (dChain fLe fLe (dVar 1) (dUn fIntS (dVar 0)) (dVar 2)))) (sRaise "NoText") sNil)
 (sCalm (sRet (dUn fIntS (dVar 0)))))
noncomputable def fX_read_number:FN:=fnV 3 bX_read_number
noncomputable def b_read_p:DS :=
 (sSeq (sIf (dOr (dNot (dCall (cal fV_is_number) [(dVar 0)])) (dNot (dCall (cal fV_is_prime) [(dUn fIntS (dVar 0))]))) sBad sNil)
 (sRet (dUn fIntS (dVar 0))))
noncomputable def fV_read_p:FN:=fnV 1 b_read_p
noncomputable def bX_read_p:DS :=
 (sSeq (sIf (dOr (dNot (dCall (cal fV_is_number) [(dVar 0)])) (dNot (dCall (cal fV_is_prime) [(dUn fIntS (dVar 0))]))) (sRaise "NoText") sNil)
 (sCalm (sRet (dUn fIntS (dVar 0)))))
noncomputable def fX_read_p:FN:=fnV 1 bX_read_p
noncomputable def b_read_hand:DS :=
 (sSeq (sIf (dOr (dBin fNe (dLen (dVar 0)) (dC (.int 1))) (dBin fNinS (dVar 0) (dC (.str "abcdefghij")))) sBad sNil)
 (sRet (dMeth indexT (dC (.str "abcdefghij")) (dVar 0))))
noncomputable def fV_read_hand:FN:=fnV 1 b_read_hand
noncomputable def bX_read_hand:DS :=
 (sSeq (sIf (dOr (dBin fNe (dLen (dVar 0)) (dC (.int 1))) (dBin fNinS (dVar 0) (dC (.str "abcdefghij")))) (sRaise "NoText") sNil)
 (sCalm (sRet (dMeth indexT (dC (.str "abcdefghij")) (dVar 0)))))
noncomputable def fX_read_hand:FN:=fnV 1 bX_read_hand
noncomputable def b_read_row:DS :=
 (sSeq (sSet 3 (dMeth splitT (dVar 2) (dC (.str " "))))
 (sSeq (sIf (dBin fNe (dLen (dVar 3)) (dBin fAdd (dC (.int 1)) (dVar 1))) sBad sNil)
 (sRet (dTup [(dCall (cal fV_read_hand) [(dIdx (dVar 3) (dC (.int 0)))]),(dUn fTuple (dComp (iSeq (dCut (dVar 3) (some (dC (.int 1))) none)) [none,some 0] (bName 0) (dC (.bl true)) (dCall (cal fV_read_number) [(dVar 0),(dC (.int 0)),(dBin fSub (dVar 1) (dC (.int 1)))])))]))))
noncomputable def fV_read_row:FN:=fnV 4 b_read_row
noncomputable def bX_read_row:DS :=
 (sSeq (sSet 3 (dMeth splitT (dVar 2) (dC (.str " "))))
 (sSeq (sIf (dBin fNe (dLen (dVar 3)) (dBin fAdd (dC (.int 1)) (dVar 1))) (sRaise "NoText") sNil)
 (sRet (dTup [(dCall fX_read_hand [(dIdx (dVar 3) (dC (.int 0)))]),(dUn fTuple (dCompX (iSeq (dCut (dVar 3) (some (dC (.int 1))) none)) [none,some 0] (bName 0) (dCall fX_read_number [(dVar 0),(dC (.int 0)),(dBin fSub (dVar 1) (dC (.int 1)))])))]))))
noncomputable def fX_read_row:FN:=fnV 4 bX_read_row
noncomputable def b_read_table:DS :=
 (sSeq (sIf (dNot (dIs .str (dVar 0))) sBad sNil)
 (sSeq (sSet 1 (dMeth splitT (dVar 0) (dC (.str "; "))))
 (sSeq (sIf (dOr (dBin fLt (dLen (dVar 1)) (dC (.int 2))) (dBin fGt (dLen (dVar 1)) (dBin fAdd (dC (.int 2)) (dC (.int 24))))) sBad sNil)
 (sSeq (sSet 2 (dCall (cal fV_read_p) [(dIdx (dVar 1) (dC (.int 0)))]))
 (sSeq (sSet 3 (dCall (cal fV_read_number) [(dIdx (dVar 1) (dC (.int 1))),(dC (.int 1)),(dC (.int 12))]))
 (sRet (dTup [(dVar 2),(dVar 3),(dUn fTuple (dComp (iSeq (dCut (dVar 1) (some (dC (.int 2))) none)) [none,some 2,some 3] (bName 0) (dC (.bl true)) (dCall (cal fV_read_row) [(dVar 1),(dVar 2),(dVar 0)])))])))))))
noncomputable def fV_read_table:FN:=fnV 4 b_read_table
noncomputable def bX_read_table:DS :=
 (sSeq (sIf (dNot (dIs .str (dVar 0))) (sRaise "NoText") sNil)
 (sSeq (sSet 1 (dMeth splitT (dVar 0) (dC (.str "; "))))
 (sSeq (sIf (dOr (dBin fLt (dLen (dVar 1)) (dC (.int 2))) (dBin fGt (dLen (dVar 1)) (dBin fAdd (dC (.int 2)) (dC (.int 24))))) (sRaise "NoText") sNil)
 (sSeq (sSet 2 (dCall fX_read_p [(dIdx (dVar 1) (dC (.int 0)))]))
 (sSeq (sSet 3 (dCall fX_read_number [(dIdx (dVar 1) (dC (.int 1))),(dC (.int 1)),(dC (.int 12))]))
 (sRet (dTup [(dVar 2),(dVar 3),(dUn fTuple (dCompX (iSeq (dCut (dVar 1) (some (dC (.int 2))) none)) [none,some 2,some 3] (bName 0) (dCall fX_read_row [(dVar 1),(dVar 2),(dVar 0)])))])))))))
noncomputable def fX_read_table:FN:=fnV 4 bX_read_table
noncomputable def b__law_cell:DS :=
 (sSeq (sIf (dBin fLt (dVar 1) (dLen (dVar 0))) (sRet (dIdx (dVar 0) (dVar 1))) sNil)
 (sSeq (sSet 2 (dBin fAdd (dBin fMulA (dVar 1) (dC (.int 48271))) (dC (.int 977))))
 (sSeq (sIf (dBin fGt (dLen (dVar 0)) (dC (.int 0))) (sSet 2 (dBin fAdd (dVar 2) (dBin fMulA (dBin fMod (dIdx (dVar 0) (dBin fMod (dBin fMulA (dVar 1) (dC (.int 3))) (dLen (dVar 0)))) (dC (.int 2147483647))) (dC (.int 40692))))) sNil)
 (sRet (dBin fMod (dBin fMulA (dBin fMod (dBin fMulA (dVar 2) (dVar 2)) (dC (.int 2147483629))) (dC (.int 69621))) (dC (.int 2147483587)))))))
noncomputable def fV__law_cell:FN:=fnV 3 b__law_cell
noncomputable def b__law_mixed:DS :=
 (sSeq (sSet 2 (dBin fMod (dBin fMulA (dBin fAdd (dBin fMod (dVar 0) (dC (.int 2147483647))) (dC (.int 1))) (dBin fAdd (dC (.int 48271)) (dBin fMulA (dVar 1) (dVar 1)))) (dC (.int 2147483629))))
 (sRet (dBin fMod (dBin fMulA (dBin fMod (dBin fMulA (dVar 2) (dBin fAdd (dVar 2) (dBin fMulA (dC (.int 977)) (dVar 1)))) (dC (.int 2147483587))) (dC (.int 40692))) (dC (.int 2147483399)))))
noncomputable def fV__law_mixed:FN:=fnV 3 b__law_mixed
noncomputable def b__law_numbers:DS :=
 (sSeq (sSet 4 (dCell (dLst [])))
 (sSeq (sFor (iRange1 (dVar 2)) (bName 5) (sIf (dVar 3) (sSeq (sAppend (dVar 4) (dBin fMod (dVar 0) (dVar 1)))
 (sSet 0 (dBin fDiv (dVar 0) (dVar 1)))) (sAppend (dVar 4) (dBin fMod (dBin fDiv (dCall (cal fV__law_mixed) [(dVar 0),(dVar 5)]) (dC (.int 7))) (dVar 1)))))
 (sRet (dVar 4))))
noncomputable def fD__law_numbers:FN:=fnD 6 b__law_numbers
noncomputable def b__law_table:DS :=
 (sSeq (sSet 3 (dCall (cal fV__law_cell) [(dVar 0),(dVar 1)]))
 (sSeq (sSet 4 (dBin fEq (dBin fMod (dVar 3) (dC (.int 2))) (dC (.int 0))))
 (sSeq (sSet 5 (dBin fAdd (dC (.int 1)) (dBin fMod (dBin fDiv (dVar 3) (dC (.int 2))) (dC (.int 4)))))
 (sSeq (sSet 6 (dBin fMod (dBin fDiv (dVar 3) (dC (.int 8))) (dC (.int 7))))
 (sSeq (sSet 7 (dBin fAdd (dC (.int 1)) (dBin fMod (dBin fDiv (dVar 3) (dC (.int 56))) (dC (.int 5)))))
 (sSeq (sIf (dBin fEq (dBin fMod (dBin fDiv (dVar 3) (dC (.int 280))) (dC (.int 8))) (dC (.int 5))) (sSeq (sSet 5 (dBin fAdd (dVar 5) (dC (.int 2))))
 (sSet 6 (dBin fAdd (dVar 6) (dC (.int 5))))) sNil)
 (sSeq (sSet 8 (dCell (dLst [])))
 (sSeq (sFor (iRange1 (dVar 6)) (bName 9) (sSeq (sSet 3 (dCall (cal fV__law_cell) [(dVar 0),(dBin fAdd (dBin fAdd (dVar 1) (dC (.int 1))) (dVar 9))]))
 (sSeq (sSet 10 (dCall (cal fD__law_numbers) [(dBin fDiv (dVar 3) (dC (.int 100))),(dVar 2),(dVar 5),(dVar 4)]))
 (sSeq (sIf (dBin fEq (dBin fMod (dBin fDiv (dVar 3) (dC (.int 10))) (dC (.int 5))) (dC (.int 1))) (sSeq (sSet 11 (dBin fMod (dBin fDiv (dVar 3) (dC (.int 100))) (dVar 2)))
 (sSeq (sSet 10 (dCell (dLst [(dC (.int 1))])))
 (sWhile (dBin fLt (dLen (dVar 10)) (dVar 5)) (sAppend (dVar 10) (dBin fMod (dBin fMulA (dIdx (dVar 10) (dUn fNeg (dC (.int 1)))) (dVar 11)) (dVar 2)))))) sNil)
 (sAppend (dVar 8) (dTup [(dBin fMod (dVar 3) (dVar 7)),(dUn fTuple (dVar 10))]))))))
 (sRet (dTup [(dVar 2),(dVar 5),(dUn fTuple (dVar 8))]))))))))))
noncomputable def fV__law_table:FN:=fnV 12 b__law_table
noncomputable def b__law_p:DS :=
 (sRet (dIdx (dLst [(dC (.int 2)),(dC (.int 3)),(dC (.int 5)),(dC (.int 7)),(dC (.int 11)),(dC (.int 13)),(dC (.int 2)),(dC (.int 97))]) (dBin fMod (dVar 0) (dC (.int 8)))))
noncomputable def fV__law_p:FN:=fnV 1 b__law_p
noncomputable def b__law_text:DS :=
 (sSeq (sSet 1 (dCell (dLst [(dUn fStr (dIdx (dVar 0) (dC (.int 0)))),(dUn fStr (dIdx (dVar 0) (dC (.int 1))))])))
 (sSeq (sFor (iSeq (dIdx (dVar 0) (dC (.int 2)))) (bTup [2,3]) (sAppend (dVar 1) (dMeth joinT (dC (.str " ")) (dBin fAdd (dLst [(dIdx (dC (.str "abcdefghij")) (dVar 2))]) (dComp (iSeq (dVar 3)) [none] (bName 0) (dC (.bl true)) (dUn fStr (dVar 0)))))))
 (sRet (dMeth joinT (dC (.str "; ")) (dVar 1)))))
noncomputable def fV__law_text:FN:=fnV 4 b__law_text
noncomputable def b__law_number:DS :=
 (sSeq (sIf (dBin fNinA (dVar 0) (dComp (iRange1 (dC (.int 100))) [none] (bName 0) (dC (.bl true)) (dUn fStr (dVar 0)))) (sRet (dC (.non))) sNil)
 (sRet (dUn fIntS (dVar 0))))
noncomputable def fV__law_number:FN:=fnV 1 b__law_number
noncomputable def b__law_due:DS :=
 (sSeq (sSet 1 (dMeth splitT (dVar 0) (dC (.str "; "))))
 (sSeq (sIf (dBin fLt (dLen (dVar 1)) (dC (.int 2))) (sRet (dC (.str "none"))) sNil)
 (sSeq (sSet 2 (dCall (cal fV__law_number) [(dIdx (dVar 1) (dC (.int 0)))]))
 (sSeq (sSet 3 (dCall (cal fV__law_number) [(dIdx (dVar 1) (dC (.int 1)))]))
 (sSeq (sIf (dOr (dUn isNon (dVar 2)) (dOr (dBin fLt (dVar 2) (dC (.int 2))) (dBin fNe (dComp (iRange2 (dC (.int 2)) (dVar 2)) [none,some 2] (bName 0) (dBin fEq (dBin fMod (dVar 1) (dVar 0)) (dC (.int 0))) (dVar 0)) (dLst [])))) (sRet (dC (.str "none"))) sNil)
 (sSeq (sIf (dOr (dUn isNon (dVar 3)) (dOr (dNot (dChain fLe fLe (dC (.int 1)) (dVar 3) (dC (.int 12)))) (dBin fGt (dLen (dVar 1)) (dC (.int 26))))) (sRet (dC (.str "none"))) sNil)
 (sSeq (sSet 4 (dCell (dLst [])))
 (sSeq (sFor (iSeq (dCut (dVar 1) (some (dC (.int 2))) none)) (bName 5) (sSeq (sSet 6 (dMeth splitT (dVar 5) (dC (.str " "))))
 (sSeq (sSet 7 (dComp (iSeq (dCut (dVar 6) (some (dC (.int 1))) none)) [none] (bName 0) (dC (.bl true)) (dCall (cal fV__law_number) [(dVar 0)])))
 (sSeq (sIf (dOr (dBin fNinA (dIdx (dVar 6) (dC (.int 0))) (dUn fSigns (dC (.str "abcdefghij")))) (dBin fNe (dLen (dVar 7)) (dVar 3))) (sRet (dC (.str "none"))) sNil)
 (sSeq (sIf (dNot (dUn fAll (dComp (iSeq (dVar 7)) [none,some 2] (bName 0) (dC (.bl true)) (dAnd (dUn notNon (dVar 0)) (dBin fLt (dVar 0) (dVar 1)))))) (sRet (dC (.str "none"))) sNil)
 (sAppend (dVar 4) (dTup [(dMeth indexT (dC (.str "abcdefghij")) (dIdx (dVar 6) (dC (.int 0)))),(dUn fTuple (dVar 7))])))))))
 (sRet (dTup [(dVar 2),(dVar 3),(dUn fTuple (dVar 4))]))))))))))
noncomputable def fV__law_due:FN:=fnV 8 b__law_due
noncomputable def b__law_exchanged:DS :=
 (sSeq (sSet 3 (dBin fMod (dVar 1) (dLen (dVar 0))))
 (sSeq (sSet 4 (dBin fMod (dBin fDiv (dVar 1) (dC (.int 64))) (dLen (dVar 0))))
 (sSeq (sSet 5 (dCell (dUn fList (dVar 0))))
 (sSeq (sSetItem 5 (dVar 3) (dIdx (dVar 0) (dVar 4)))
 (sSeq (sSetItem 5 (dVar 4) (dIdx (dVar 0) (dVar 3)))
 (sRet (dMeth joinT (dVar 2) (dVar 5))))))))
noncomputable def fV__law_exchanged:FN:=fnV 6 b__law_exchanged
noncomputable def b__law_spoilt:DS :=
 (sSeq (sSet 2 (dIdx (dC (.str "0123789; ;abkx-")) (dBin fMod (dBin fDiv (dVar 1) (dC (.int 6))) (dC (.int 15)))))
 (sSeq (sSet 3 (dBin fMod (dBin fDiv (dVar 1) (dC (.int 128))) (dBin fAdd (dLen (dVar 0)) (dC (.int 1)))))
 (sSeq (sIf (dBin fEq (dBin fMod (dVar 1) (dC (.int 6))) (dC (.int 0))) (sRet (dBin fAdd (dBin fAdd (dCutS (dVar 0) none (some (dVar 3))) (dVar 2)) (dCutS (dVar 0) (some (dVar 3)) none))) sNil)
 (sSeq (sIf (dBin fEq (dBin fMod (dVar 1) (dC (.int 6))) (dC (.int 1))) (sRet (dBin fAdd (dCutS (dVar 0) none (some (dVar 3))) (dCutS (dVar 0) (some (dBin fAdd (dVar 3) (dC (.int 1)))) none))) sNil)
 (sSeq (sIf (dBin fEq (dBin fMod (dVar 1) (dC (.int 6))) (dC (.int 2))) (sRet (dBin fAdd (dBin fAdd (dCutS (dVar 0) none (some (dVar 3))) (dVar 2)) (dCutS (dVar 0) (some (dBin fAdd (dVar 3) (dC (.int 1)))) none))) sNil)
 (sSeq (sIf (dBin fEq (dBin fMod (dVar 1) (dC (.int 6))) (dC (.int 3))) (sRet (dCall (cal fV__law_exchanged) [(dMeth splitT (dVar 0) (dC (.str "; "))),(dBin fDiv (dVar 1) (dC (.int 128))),(dC (.str "; "))])) sNil)
 (sSeq (sIf (dBin fEq (dBin fMod (dVar 1) (dC (.int 6))) (dC (.int 4))) (sRet (dCall (cal fV__law_exchanged) [(dMeth splitT (dVar 0) (dC (.str " "))),(dBin fDiv (dVar 1) (dC (.int 128))),(dC (.str " "))])) sNil)
 (sSeq (sSet 4 (dMeth splitT (dVar 0) (dC (.str "; "))))
 (sRet (dMeth joinT (dC (.str "; ")) (dBin fAdd (dVar 4) (dLst [(dIdx (dVar 4) (dBin fMod (dBin fDiv (dVar 1) (dC (.int 128))) (dLen (dVar 4))))]))))))))))))
noncomputable def fV__law_spoilt:FN:=fnV 5 b__law_spoilt
noncomputable def b__law_read:DS :=
 (sSeq (sIf (dVar 1) (sTry (sRet (dCall fX_read_table [(dVar 0)])) (fun n => if n = "NoText" then (sAs 2 "NoText" (sRet (dIdx (dLst [(dC (.str "other")),(dC (.str "none"))]) (dUn fInt (dAnd (dIsG (fun n => if n = "NoText" then some true else none) (dVar 2)) (dNot (dIsG (fun n => if n = "NoText" then some false else none) (dVar 2)))))))) else sBad)) sNil)
 (sTry (sRet (dCall fX_read_table [(dVar 0)])) (fun n => if n = "NoText" then (sAs 2 "NoText" (sRet (dIdx (dLst [(dC (.str "other")),(dC (.str "none"))]) (dUn fInt (dIsG (fun n => if n = "NoText" then some true else none) (dVar 2)))))) else sBad)))
noncomputable def fV__law_read:FN:=fnV 3 b__law_read
noncomputable def b__law_whole:DS :=
 (sRet (dAnd (dIs .int (dVar 0)) (dAnd (dNot (dIs .bool (dVar 0))) (dChain fLe fLt (dC (.int 0)) (dVar 0) (dVar 1)))))
noncomputable def fV__law_whole:FN:=fnV 2 b__law_whole
noncomputable def b__law_is:DS :=
 (sSeq (sIf (dOr (dNot (dIs .tuple (dVar 0))) (dOr (dBin fNe (dLen (dVar 0)) (dC (.int 3))) (dNot (dIs .tuple (dIdx (dVar 0) (dC (.int 2))))))) (sRet (dC (.bl false))) sNil)
 (sSeq (sFor (iSeq (dIdx (dVar 0) (dC (.int 2)))) (bName 1) (sSeq (sIf (dOr (dNot (dIs .tuple (dVar 1))) (dOr (dNot (dIs .tuple (dIdx (dVar 1) (dC (.int 1))))) (dNot (dCall (cal fV__law_whole) [(dIdx (dVar 1) (dC (.int 0))),(dC (.int 10))])))) (sRet (dC (.bl false))) sNil)
 (sIf (dNot (dUn fAll (dComp (iSeq (dIdx (dVar 1) (dC (.int 1)))) [none,some 0] (bName 0) (dC (.bl true)) (dCall (cal fV__law_whole) [(dVar 0),(dIdx (dVar 1) (dC (.int 0)))])))) (sRet (dC (.bl false))) sNil)))
 (sRet (dAnd (dCall (cal fV__law_whole) [(dIdx (dVar 0) (dC (.int 0))),(dC (.int 98))]) (dCall (cal fV__law_whole) [(dIdx (dVar 0) (dC (.int 1))),(dC (.int 13))])))))
noncomputable def fV__law_is:FN:=fnV 2 b__law_is
noncomputable def b_law:DS :=
 (sSeq (sSet 1 (dCall (cal fV__law_table) [(dVar 0),(dC (.int 10)),(dCall (cal fV__law_p) [(dCall (cal fV__law_cell) [(dVar 0),(dC (.int 0))])])]))
 (sSeq (sSet 2 (dBin fMod (dCall (cal fV__law_cell) [(dVar 0),(dC (.int 1))]) (dC (.int 6))))
 (sSeq (sSet 1 (dTup [(dIdx (dVar 1) (dC (.int 0))),(dIdx (dVar 1) (dC (.int 1))),(dUn fTuple (dComp (iSeq (dIdx (dVar 1) (dC (.int 2)))) [none,none,some 2] (bTup [0,1]) (dC (.bl true)) (dTup [(dBin fAdd (dVar 0) (dVar 2)),(dVar 1)])))]))
 (sSeq (sSet 3 (dCall (cal fV__law_text) [(dVar 1)]))
 (sSeq (sSet 4 (dCall (cal fV_read_table) [(dVar 3)]))
 (sSeq (sIf (dOr (dBin fNe (dCall (cal fV_show_table) [(dVar 1)]) (dVar 3)) (dOr (dBin fNe (dVar 4) (dVar 1)) (dNot (dCall (cal fV__law_is) [(dVar 4)])))) (sRet (dC (.bl false))) sNil)
 (sSeq (sFor (iRange1 (dC (.int 6))) (bName 5) (sSeq (sSet 6 (dBin fMod (dCall (cal fV__law_cell) [(dVar 0),(dBin fAdd (dC (.int 30)) (dVar 5))]) (dBin fPow (dC (.int 10)) (dC (.int 9)))))
 (sSeq (sSet 7 (dCall (cal fV__law_spoilt) [(dVar 3),(dVar 6)]))
 (sSeq (sSet 4 (dCall (cal fV__law_read) [(dVar 7),(dBin fEq (dBin fMod (dBin fDiv (dVar 6) (dBin fPow (dC (.int 10)) (dC (.int 8)))) (dC (.int 2))) (dC (.int 0)))]))
 (sIf (dOr (dBin fNe (dVar 4) (dCall (cal fV__law_due) [(dVar 7)])) (dAnd (dBin fNe (dVar 4) (dC (.str "none"))) (dNot (dCall (cal fV__law_is) [(dVar 4)])))) (sRet (dC (.bl false))) sNil)))))
 (sSeq (sSet 8 (dIdx (dLst [(dC (.non)),(dC (.int 5)),(dC (.bl true)),(dLst [(dVar 3)]),(dVar 1),(dC (.str "")),(dC (.str "5")),(dC (.str "4; 1")),(dC (.str "5; 0")),(dC (.str "5; 13")),(dC (.str "1; 1"))]) (dBin fMod (dCall (cal fV__law_cell) [(dVar 0),(dC (.int 40))]) (dC (.int 11)))))
 (sRet (dAnd (dBin fEq (dCall (cal fV__law_read) [(dVar 8),(dC (.bl true))]) (dC (.str "none"))) (dBin fEq (dCall (cal fV__law_read) [(dVar 8),(dC (.bl false))]) (dC (.str "none")))))))))))))
noncomputable def law_s0:DS:=(sSet 1 (dCall (cal fV__law_table) [(dVar 0),(dC (.int 10)),(dCall (cal fV__law_p) [(dCall (cal fV__law_cell) [(dVar 0),(dC (.int 0))])])]))
noncomputable def law_s1:DS:=(sSet 2 (dBin fMod (dCall (cal fV__law_cell) [(dVar 0),(dC (.int 1))]) (dC (.int 6))))
noncomputable def law_s2:DS:=(sSet 1 (dTup [(dIdx (dVar 1) (dC (.int 0))),(dIdx (dVar 1) (dC (.int 1))),(dUn fTuple (dComp (iSeq (dIdx (dVar 1) (dC (.int 2)))) [none,none,some 2] (bTup [0,1]) (dC (.bl true)) (dTup [(dBin fAdd (dVar 0) (dVar 2)),(dVar 1)])))]))
noncomputable def law_s3:DS:=(sSet 3 (dCall (cal fV__law_text) [(dVar 1)]))
noncomputable def law_s4:DS:=(sSet 4 (dCall (cal fV_read_table) [(dVar 3)]))
noncomputable def law_s5:DS:=(sIf (dOr (dBin fNe (dCall (cal fV_show_table) [(dVar 1)]) (dVar 3)) (dOr (dBin fNe (dVar 4) (dVar 1)) (dNot (dCall (cal fV__law_is) [(dVar 4)])))) (sRet (dC (.bl false))) sNil)
noncomputable def law_s6:DS:=(sFor (iRange1 (dC (.int 6))) (bName 5) (sSeq (sSet 6 (dBin fMod (dCall (cal fV__law_cell) [(dVar 0),(dBin fAdd (dC (.int 30)) (dVar 5))]) (dBin fPow (dC (.int 10)) (dC (.int 9)))))
 (sSeq (sSet 7 (dCall (cal fV__law_spoilt) [(dVar 3),(dVar 6)]))
 (sSeq (sSet 4 (dCall (cal fV__law_read) [(dVar 7),(dBin fEq (dBin fMod (dBin fDiv (dVar 6) (dBin fPow (dC (.int 10)) (dC (.int 8)))) (dC (.int 2))) (dC (.int 0)))]))
 (sIf (dOr (dBin fNe (dVar 4) (dCall (cal fV__law_due) [(dVar 7)])) (dAnd (dBin fNe (dVar 4) (dC (.str "none"))) (dNot (dCall (cal fV__law_is) [(dVar 4)])))) (sRet (dC (.bl false))) sNil)))))
noncomputable def law_s7:DS:=(sSet 8 (dIdx (dLst [(dC (.non)),(dC (.int 5)),(dC (.bl true)),(dLst [(dVar 3)]),(dVar 1),(dC (.str "")),(dC (.str "5")),(dC (.str "4; 1")),(dC (.str "5; 0")),(dC (.str "5; 13")),(dC (.str "1; 1"))]) (dBin fMod (dCall (cal fV__law_cell) [(dVar 0),(dC (.int 40))]) (dC (.int 11)))))
noncomputable def law_s8:DS:=(sRet (dAnd (dBin fEq (dCall (cal fV__law_read) [(dVar 8),(dC (.bl true))]) (dC (.str "none"))) (dBin fEq (dCall (cal fV__law_read) [(dVar 8),(dC (.bl false))]) (dC (.str "none")))))
noncomputable def law_t8:DS:=law_s8
noncomputable def law_t7:DS:=sSeq law_s7 law_t8
noncomputable def law_t6:DS:=sSeq law_s6 law_t7
noncomputable def law_t5:DS:=sSeq law_s5 law_t6
noncomputable def law_t4:DS:=sSeq law_s4 law_t5
noncomputable def law_t3:DS:=sSeq law_s3 law_t4
noncomputable def law_t2:DS:=sSeq law_s2 law_t3
noncomputable def law_t1:DS:=sSeq law_s1 law_t2
noncomputable def law_t0:DS:=sSeq law_s0 law_t1
theorem law_is:b_law = law_t0:=rfl
theorem law_t0_is (e:Slots) (μ:Store):law_t0 e μ = (law_s0 e μ).seq law_t1:=rfl
theorem law_t1_is (e:Slots) (μ:Store):law_t1 e μ = (law_s1 e μ).seq law_t2:=rfl
theorem law_t2_is (e:Slots) (μ:Store):law_t2 e μ = (law_s2 e μ).seq law_t3:=rfl
theorem law_t3_is (e:Slots) (μ:Store):law_t3 e μ = (law_s3 e μ).seq law_t4:=rfl
theorem law_t4_is (e:Slots) (μ:Store):law_t4 e μ = (law_s4 e μ).seq law_t5:=rfl
theorem law_t5_is (e:Slots) (μ:Store):law_t5 e μ = (law_s5 e μ).seq law_t6:=rfl
theorem law_t6_is (e:Slots) (μ:Store):law_t6 e μ = (law_s6 e μ).seq law_t7:=rfl
theorem law_t7_is (e:Slots) (μ:Store):law_t7 e μ = (law_s7 e μ).seq law_t8:=rfl
theorem law_t8_is (e:Slots) (μ:Store):law_t8 e μ = law_s8 e μ:=rfl
noncomputable def fV_law:FN:=fnV 9 b_law
end Fw.k91
section
set_option maxHeartbeats 4000000
namespace Fw.k91
open PySem L2 Fw
seal Fw.CE Fw.CT Fw.CA Fw.CS Fw.CSs Fw.CI Fw.CB Fw.CF Fw.CW Fw.CO L2.PIfs
noncomputable def top (i:Nat):Stmt:=PySem.Challenge.pw_fewopen_k91_tables_written.main.body.getD i (.Pass ⟨0,0,0,0⟩)
noncomputable abbrev s_is_whole:Stmt:=top 8
noncomputable abbrev s_is_prime:Stmt:=top 9
noncomputable abbrev s_show_words:Stmt:=top 17
noncomputable abbrev s_show_row:Stmt:=top 18
noncomputable abbrev s_show_table:Stmt:=top 19
noncomputable abbrev s_is_number:Stmt:=top 20
noncomputable abbrev s_read_number:Stmt:=top 21
noncomputable abbrev s_read_p:Stmt:=top 22
noncomputable abbrev s_read_hand:Stmt:=top 23
noncomputable abbrev s_read_row:Stmt:=top 24
noncomputable abbrev s_read_table:Stmt:=top 25
noncomputable abbrev s__law_cell:Stmt:=top 27
noncomputable abbrev s__law_mixed:Stmt:=top 28
noncomputable abbrev s__law_numbers:Stmt:=top 29
noncomputable abbrev s__law_table:Stmt:=top 30
noncomputable abbrev s__law_p:Stmt:=top 31
noncomputable abbrev s__law_text:Stmt:=top 32
noncomputable abbrev s__law_number:Stmt:=top 33
noncomputable abbrev s__law_due:Stmt:=top 34
noncomputable abbrev s__law_exchanged:Stmt:=top 35
noncomputable abbrev s__law_spoilt:Stmt:=top 36
noncomputable abbrev s__law_read:Stmt:=top 37
noncomputable abbrev s__law_is:Stmt:=top 38
noncomputable abbrev s__law_whole:Stmt:=top 39
noncomputable abbrev s_law:Stmt:=top 40
structure Tx (K:PySem.W.Frag) (mg:Str → Option Value):Prop where
 n_ValueError:mg "ValueError" = none
 n_all:mg "all" = none
 n_bool:mg "bool" = none
 n_int:mg "int" = none
 n_isinstance:mg "isinstance" = none
 n_len:mg "len" = none
 n_list:mg "list" = none
 n_range:mg "range" = none
 n_str:mg "str" = none
 n_tuple:mg "tuple" = none
 c_FIGURES:∃ tk,mg "FIGURES" = some (.str "0123456789" tk)
 c_GREATEST_P:∃ tk,mg "GREATEST_P" = some (.int 97 tk)
 c_HANDS:∃ tk,mg "HANDS" = some (.str "abcdefghij" tk)
 c_LETTERS:∃ tk,mg "LETTERS" = some (.str "abcdefghijklmnopqrstuvwxyz" tk)
 c_MOST_FIGURES:∃ tk,mg "MOST_FIGURES" = some (.int 60 tk)
 c_MOST_ROWS:∃ tk,mg "MOST_ROWS" = some (.int 24 tk)
 c_MOST_WIDE:∃ tk,mg "MOST_WIDE" = some (.int 12 tk)
structure Ec (K:PySem.W.Frag) (mg:Str → Option Value) (e_NoText e_OpenError e_NoName e_NoRow e_NoRule:Addr):Prop where
 m_NoText:mg "NoText" = some (.ref e_NoText)
 n_NoText:PySem.W.nsIn K mainGlobals "NoText" = some (some (.ref e_NoText))
 q_NoText:PySem.W.excIn K e_NoText bmV "ValueError.__new__" = true
 k_NoText:KExc K e_NoText
 m_OpenError:mg "OpenError" = some (.ref e_OpenError)
 n_OpenError:PySem.W.nsIn K mainGlobals "OpenError" = some (some (.ref e_OpenError))
 q_OpenError:PySem.W.excIn K e_OpenError bmV "ValueError.__new__" = true
 m_NoName:mg "NoName" = some (.ref e_NoName)
 n_NoName:PySem.W.nsIn K mainGlobals "NoName" = some (some (.ref e_NoName))
 m_NoRow:mg "NoRow" = some (.ref e_NoRow)
 n_NoRow:PySem.W.nsIn K mainGlobals "NoRow" = some (some (.ref e_NoRow))
 m_NoRule:mg "NoRule" = some (.ref e_NoRule)
 n_NoRule:PySem.W.nsIn K mainGlobals "NoRule" = some (some (.ref e_NoRule))
 s0:(mroK K e_NoText).contains (.ref e_OpenError) = true
 s1:PySem.W.kitOne K (.ref e_NoText) (.ref e_NoText) = some true
 s2:PySem.W.kitAny K (.ref e_NoText) [.ref e_NoName,.ref e_NoRow,.ref e_NoRule] = some false
 s3:(mroK K e_NoText).contains (.ref e_NoText) = true
 s4:PySem.W.kitOne K (.ref e_NoText) (.type "ValueError") = some true
noncomputable abbrev n0:List Str:=["small","thing"]
noncomputable abbrev n1:List Str:=["thing"]
noncomputable abbrev n2:List Str:=["things"]
noncomputable abbrev n3:List Str:=["row"]
noncomputable abbrev n4:List Str:=["table"]
noncomputable abbrev n5:List Str:=["sign"]
noncomputable abbrev n6:List Str:=["word"]
noncomputable abbrev n7:List Str:=["word","p"]
noncomputable abbrev n8:List Str:=["p","wide","text","words"]
noncomputable abbrev n9:List Str:=["piece","p","wide"]
noncomputable abbrev n10:List Str:=["text","pieces","p","wide"]
noncomputable abbrev n11:List Str:=["_law_number_here"]
noncomputable abbrev n12:List Str:=["_law_table_here","_law_words","_law_hand","_law_line"]
noncomputable abbrev n13:List Str:=["_law_k"]
noncomputable abbrev n14:List Str:=["_law_word"]
noncomputable abbrev n15:List Str:=["_law_k","_law_p_here"]
noncomputable abbrev n16:List Str:=["_law_text_here","_law_parts_of_text","_law_p_here","_law_wide","_law_rows","_law_part","_law_words","_law_numbers_here"]
noncomputable abbrev n17:List Str:=["_law_number_here","_law_p_here"]
noncomputable abbrev n18:List Str:=["_law_number_here","_law_found"]
noncomputable abbrev n19:List Str:=["_law_found","_law_row"]
noncomputable abbrev n20:List Str:=["_law_hand","_law_line","_law_more"]
noncomputable abbrev n21:List Str:=["_law_script","_law_table_here","_law_more","_law_text_here","_law_found","_law_k","_law_cell_here","_law_spoilt_here","_law_odd"]
noncomputable abbrev n22:List Str:=["word","least","greatest"]
noncomputable abbrev n23:List Str:=["p","wide","text"]
noncomputable abbrev n24:List Str:=["text"]
noncomputable abbrev n25:List Str:=["_law_script","_law_k","_law_number_here"]
noncomputable abbrev n26:List Str:=["_law_script","_law_k"]
noncomputable abbrev n27:List Str:=["_law_cell_here","_law_k","_law_number_here"]
noncomputable abbrev n28:List Str:=["_law_cell_here","_law_k"]
noncomputable abbrev n29:List Str:=["_law_cell_here","_law_p_here","_law_count","_law_by_digits","_law_found","_law_k"]
noncomputable abbrev n30:List Str:=["_law_cell_here","_law_p_here","_law_count","_law_by_digits"]
noncomputable abbrev n31:List Str:=["_law_script","_law_at","_law_p_here","_law_cell_here","_law_by_digits","_law_wide","_law_count","_law_many","_law_rows","_law_k","_law_line","_law_x"]
noncomputable abbrev n32:List Str:=["_law_script","_law_at","_law_p_here"]
noncomputable abbrev n33:List Str:=["_law_cell_here"]
noncomputable abbrev n34:List Str:=["_law_table_here"]
noncomputable abbrev n35:List Str:=["_law_text_here"]
noncomputable abbrev n36:List Str:=["_law_some","_law_cell_here","_law_between","_law_one","_law_other","_law_found"]
noncomputable abbrev n37:List Str:=["_law_some","_law_cell_here","_law_between"]
noncomputable abbrev n38:List Str:=["_law_text_here","_law_cell_here","_law_sign","_law_at","_law_some"]
noncomputable abbrev n39:List Str:=["_law_text_here","_law_cell_here"]
noncomputable abbrev n40:List Str:=["_law_text_here","_law_base","e"]
noncomputable abbrev n41:List Str:=["_law_text_here","_law_base"]
noncomputable abbrev n42:List Str:=["_law_number_here","_law_beyond"]
noncomputable abbrev n43:List Str:=["_law_found"]
noncomputable abbrev n44:List Str:=["_law_script"]
section
variable {P:Program} {w:World} {K:PySem.W.Frag} {mg:Str → Option Value} {base:Heap}
theorem sc_is_whole:FnScope n1 n1 (defScope s_is_whole):=⟨rfl,rfl,rfl,by decide +kernel,rfl,by decide +kernel,by decide +kernel⟩
theorem okV_is_whole {a_is_whole:Addr} {d_is_whole:FuncData} (T:Tx K mg) {e_NoText e_OpenError e_NoName e_NoRow e_NoRule:Addr} (Y:Ec K mg e_NoText e_OpenError e_NoName e_NoRow e_NoRule) (g_is_whole:Gf K mg "is_whole" s_is_whole n1 a_is_whole d_is_whole) :
  FnOk P w K mg base CX0 1 a_is_whole d_is_whole n1 (spD K fV_is_whole 1) :=
 fn_ok .V g_is_whole.F sc_is_whole fun cdv A outer s H E hr => (css_one (cs_ret (ce_and (ce_is_int T.n_isinstance T.n_int (ce_var 0)) (ce_one (ce_not (ce_is_bool T.n_isinstance T.n_bool (ce_var 0)))))))
theorem sc_is_prime:FnScope n1 n1 (defScope s_is_prime):=⟨rfl,rfl,rfl,by decide +kernel,rfl,by decide +kernel,by decide +kernel⟩
theorem okV_is_prime {a_is_prime:Addr} {d_is_prime:FuncData} (T:Tx K mg) {e_NoText e_OpenError e_NoName e_NoRow e_NoRule:Addr} (Y:Ec K mg e_NoText e_OpenError e_NoName e_NoRow e_NoRule) (g_is_prime:Gf K mg "is_prime" s_is_prime n1 a_is_prime d_is_prime)
  {a_is_whole:Addr} {d_is_whole:FuncData} (g_is_whole:Gf K mg "is_whole" s_is_whole n1 a_is_whole d_is_whole)
  (GV_is_whole:FnOk P w K mg base CX0 1 a_is_whole d_is_whole n1 (spD K fV_is_whole 1)) :
  FnOk P w K mg base CX0 2 a_is_prime d_is_prime n1 (spD K fV_is_prime 1) :=
 fn_ok .V g_is_prime.F sc_is_prime fun cdv A outer s H E hr => (css_cons (cs_if (CW.ct (cw_or (ct_not (ct_val (ce_call GV_is_whole (hr.mono (by decide)) g_is_whole.m g_is_whole.F.kp g_is_whole.b (ca_cons (ce_var 0) ca_nil)))) (cw_or (ct_lt (ce_var 0) ce_int) (cw_one_or (ct_gt (ce_var 0) (ce_gint T.c_GREATEST_P.choose_spec)))))) (css_one (cs_ret ce_bl)) css_nil)
 (css_one (cs_ret (ce_all hr T.n_all (CF.ce (cf_comp (N':=n0) rfl (compScope_of (defScope s_is_prime) rfl n1 rfl (by decide +kernel)) rfl (leaves_name rfl) (ci_range2 T.n_range ce_int (ce_var 0)) (fun _ _ _ _ _ => (cb_name 0 (show n0.Nodup by decide +kernel))) (fun _ _ _ _ _ => pifs_true) (fun _ _ _ _ _ => (ce_ne hr (ce_mod (ce_var 1) (ce_var 0)) ce_int))))))))
theorem sc_show_words:FnScope n2 n2 (defScope s_show_words):=⟨rfl,rfl,rfl,by decide +kernel,rfl,by decide +kernel,by decide +kernel⟩
theorem okV_show_words {a_show_words:Addr} {d_show_words:FuncData} (T:Tx K mg) {e_NoText e_OpenError e_NoName e_NoRow e_NoRule:Addr} (Y:Ec K mg e_NoText e_OpenError e_NoName e_NoRow e_NoRule) (g_show_words:Gf K mg "show_words" s_show_words n2 a_show_words d_show_words) :
  FnOk P w K mg base CX0 1 a_show_words d_show_words n2 (spD K fV_show_words 1) :=
 fn_ok .V g_show_words.F sc_show_words fun cdv A outer s H E hr => (css_one (cs_ret (ce_join ce_str (CF.ce (cf_comp (N':=n1) rfl (compScope_of (defScope s_show_words) rfl n2 rfl (by decide +kernel)) rfl (leaves_name rfl) (ci_seq (ce_var 0)) (fun _ _ _ _ _ => (cb_name 0 (show n1.Nodup by decide +kernel))) (fun _ _ _ _ _ => pifs_true) (fun _ _ _ _ _ => (ce_strA T.n_str (ce_var 0))))))))
theorem sc_show_row:FnScope n3 n3 (defScope s_show_row):=⟨rfl,rfl,rfl,by decide +kernel,rfl,by decide +kernel,by decide +kernel⟩
theorem okV_show_row {a_show_row:Addr} {d_show_row:FuncData} (T:Tx K mg) {e_NoText e_OpenError e_NoName e_NoRow e_NoRule:Addr} (Y:Ec K mg e_NoText e_OpenError e_NoName e_NoRow e_NoRule) (g_show_row:Gf K mg "show_row" s_show_row n3 a_show_row d_show_row)
  {a_show_words:Addr} {d_show_words:FuncData} (g_show_words:Gf K mg "show_words" s_show_words n2 a_show_words d_show_words)
  (GV_show_words:FnOk P w K mg base CX0 1 a_show_words d_show_words n2 (spD K fV_show_words 1)) :
  FnOk P w K mg base CX0 2 a_show_row d_show_row n3 (spD K fV_show_row 1) :=
 fn_ok .V g_show_row.F sc_show_row fun cdv A outer s H E hr => (css_one (cs_ret (ce_call GV_show_words (hr.mono (by decide)) g_show_words.m g_show_words.F.kp g_show_words.b (ca_cons (ce_add (CF.ce (cf_lst (ca_cons (ce_idx (ce_gstr T.c_LETTERS.choose_spec) (ce_idx (ce_var 0) ce_int)) ca_nil))) (CF.ce (cf_list T.n_list (ce_idx (ce_var 0) ce_int)))) ca_nil))))
theorem sc_show_table:FnScope n4 n4 (defScope s_show_table):=⟨rfl,rfl,rfl,by decide +kernel,rfl,by decide +kernel,by decide +kernel⟩
theorem okV_show_table {a_show_table:Addr} {d_show_table:FuncData} (T:Tx K mg) {e_NoText e_OpenError e_NoName e_NoRow e_NoRule:Addr} (Y:Ec K mg e_NoText e_OpenError e_NoName e_NoRow e_NoRule) (g_show_table:Gf K mg "show_table" s_show_table n4 a_show_table d_show_table)
  {a_show_row:Addr} {d_show_row:FuncData} (g_show_row:Gf K mg "show_row" s_show_row n3 a_show_row d_show_row)
  (GV_show_row:FnOk P w K mg base CX0 2 a_show_row d_show_row n3 (spD K fV_show_row 1)) :
  FnOk P w K mg base CX0 3 a_show_table d_show_table n4 (spD K fV_show_table 1) :=
 fn_ok .V g_show_table.F sc_show_table fun cdv A outer s H E hr => (css_one (cs_ret (ce_join ce_str (ce_add (CF.ce (cf_lst (ca_cons (ce_strI T.n_str (ce_idx (ce_var 0) ce_int)) (ca_cons (ce_strI T.n_str (ce_idx (ce_var 0) ce_int)) ca_nil)))) (CF.ce (cf_comp (N':=n3) rfl (compScope_of (defScope s_show_table) rfl n4 rfl (by decide +kernel)) rfl (leaves_name rfl) (ci_seq (ce_idx (ce_var 0) ce_int)) (fun _ _ _ _ _ => (cb_name 0 (show n3.Nodup by decide +kernel))) (fun _ _ _ _ _ => pifs_true) (fun _ _ _ _ _ => (ce_call GV_show_row (hr.mono (by decide)) g_show_row.m g_show_row.F.kp g_show_row.b (ca_cons (ce_var 0) ca_nil)))))))))
theorem sc_is_number:FnScope n6 n6 (defScope s_is_number):=⟨rfl,rfl,rfl,by decide +kernel,rfl,by decide +kernel,by decide +kernel⟩
theorem okV_is_number {a_is_number:Addr} {d_is_number:FuncData} (T:Tx K mg) {e_NoText e_OpenError e_NoName e_NoRow e_NoRule:Addr} (Y:Ec K mg e_NoText e_OpenError e_NoName e_NoRow e_NoRule) (g_is_number:Gf K mg "is_number" s_is_number n6 a_is_number d_is_number) :
  FnOk P w K mg base CX0 1 a_is_number d_is_number n6 (spD K fV_is_number 1) :=
 fn_ok .V g_is_number.F sc_is_number fun cdv A outer s H E hr => (css_cons (cs_if (CW.ct (cw_or (ct_eq hr (ce_var 0) ce_str) (cw_one_or (ct_gt (ce_len T.n_len (ce_var 0)) (ce_gint T.c_MOST_FIGURES.choose_spec))))) (css_one (cs_ret ce_bl)) css_nil)
 (css_cons (cs_if (CW.ct (cw_and (ct_eq hr (ce_idx (ce_var 0) ce_int) ce_str) (cw_one_and (ct_ne hr (ce_var 0) ce_str)))) (css_one (cs_ret ce_bl)) css_nil)
 (css_one (cs_ret (ce_all hr T.n_all (CF.ce (cf_comp (N':=n5) rfl (compScope_of (defScope s_is_number) rfl n6 rfl (by decide +kernel)) rfl (leaves_name rfl) (ci_str (ce_var 0)) (fun _ _ _ _ _ => (cb_name 0 (show n5.Nodup by decide +kernel))) (fun _ _ _ _ _ => pifs_true) (fun _ _ _ _ _ => (ce_inS (ce_var 0) (ce_gstr T.c_FIGURES.choose_spec))))))))))
theorem sc_read_number:FnScope n22 n22 (defScope s_read_number):=⟨rfl,rfl,rfl,by decide +kernel,rfl,by decide +kernel,by decide +kernel⟩
theorem okV_read_number {a_read_number:Addr} {d_read_number:FuncData} (T:Tx K mg) {e_NoText e_OpenError e_NoName e_NoRow e_NoRule:Addr} (Y:Ec K mg e_NoText e_OpenError e_NoName e_NoRow e_NoRule) (g_read_number:Gf K mg "read_number" s_read_number n22 a_read_number d_read_number)
  {a_is_number:Addr} {d_is_number:FuncData} (g_is_number:Gf K mg "is_number" s_is_number n6 a_is_number d_is_number)
  (GV_is_number:FnOk P w K mg base CX0 1 a_is_number d_is_number n6 (spD K fV_is_number 1)) :
  FnOk P w K mg base CX0 2 a_read_number d_read_number n22 (spD K fV_read_number 3) :=
 fn_ok .V g_read_number.F sc_read_number fun cdv A outer s H E hr => (css_cons (cs_if (CW.ct (cw_or (ct_not (ct_val (ce_call GV_is_number (hr.mono (by decide)) g_is_number.m g_is_number.F.kp g_is_number.b (ca_cons (ce_var 0) ca_nil)))) (cw_one_or (ct_not (ct_chain_le_le (ce_var 1) (ce_intS T.n_int (ce_var 0)) (ce_var 2)))))) (css_one cs_bad) css_nil)
 (css_one (cs_ret (ce_intS T.n_int (ce_var 0)))))
theorem okX_read_number {a_read_number:Addr} {d_read_number:FuncData} (T:Tx K mg) {e_NoText e_OpenError e_NoName e_NoRow e_NoRule:Addr} (Y:Ec K mg e_NoText e_OpenError e_NoName e_NoRow e_NoRule) (g_read_number:Gf K mg "read_number" s_read_number n22 a_read_number d_read_number)
  {a_is_number:Addr} {d_is_number:FuncData} (g_is_number:Gf K mg "is_number" s_is_number n6 a_is_number d_is_number)
  (GV_is_number:FnOk P w K mg base CX0 1 a_is_number d_is_number n6 (spD K fV_is_number 1)) :
  FnOk P w K mg base (CX1 P w) 2 a_read_number d_read_number n22 (spX K mg fX_read_number 3) :=
 fn_okX g_read_number.F sc_read_number fun cdv A outer s H E hr => (css_cons (cs_if (CW.ct (cw_or (ct_not (ct_val (ce_call GV_is_number (hr.mono (by decide)) g_is_number.m g_is_number.F.kp g_is_number.b (ca_cons (ce_var 0) ca_nil)))) (cw_one_or (ct_not (ct_chain_le_le (ce_var 1) (ce_intS T.n_int (ce_var 0)) (ce_var 2)))))) (css_one (cs_raise PySem.F.excBase_ValueError rfl Y.m_NoText Y.q_NoText)) css_nil)
 (css_calm (css_one (cs_ret (ce_intS T.n_int (ce_var 0))))))
theorem sc_read_p:FnScope n6 n6 (defScope s_read_p):=⟨rfl,rfl,rfl,by decide +kernel,rfl,by decide +kernel,by decide +kernel⟩
theorem okV_read_p {a_read_p:Addr} {d_read_p:FuncData} (T:Tx K mg) {e_NoText e_OpenError e_NoName e_NoRow e_NoRule:Addr} (Y:Ec K mg e_NoText e_OpenError e_NoName e_NoRow e_NoRule) (g_read_p:Gf K mg "read_p" s_read_p n6 a_read_p d_read_p)
  {a_is_number:Addr} {d_is_number:FuncData} (g_is_number:Gf K mg "is_number" s_is_number n6 a_is_number d_is_number)
  (GV_is_number:FnOk P w K mg base CX0 1 a_is_number d_is_number n6 (spD K fV_is_number 1))
  {a_is_prime:Addr} {d_is_prime:FuncData} (g_is_prime:Gf K mg "is_prime" s_is_prime n1 a_is_prime d_is_prime)
  (GV_is_prime:FnOk P w K mg base CX0 2 a_is_prime d_is_prime n1 (spD K fV_is_prime 1)) :
  FnOk P w K mg base CX0 3 a_read_p d_read_p n6 (spD K fV_read_p 1) :=
 fn_ok .V g_read_p.F sc_read_p fun cdv A outer s H E hr => (css_cons (cs_if (CW.ct (cw_or (ct_not (ct_val (ce_call GV_is_number (hr.mono (by decide)) g_is_number.m g_is_number.F.kp g_is_number.b (ca_cons (ce_var 0) ca_nil)))) (cw_one_or (ct_not (ct_val (ce_call GV_is_prime (hr.mono (by decide)) g_is_prime.m g_is_prime.F.kp g_is_prime.b (ca_cons (ce_intS T.n_int (ce_var 0)) ca_nil))))))) (css_one cs_bad) css_nil)
 (css_one (cs_ret (ce_intS T.n_int (ce_var 0)))))
theorem okX_read_p {a_read_p:Addr} {d_read_p:FuncData} (T:Tx K mg) {e_NoText e_OpenError e_NoName e_NoRow e_NoRule:Addr} (Y:Ec K mg e_NoText e_OpenError e_NoName e_NoRow e_NoRule) (g_read_p:Gf K mg "read_p" s_read_p n6 a_read_p d_read_p)
  {a_is_number:Addr} {d_is_number:FuncData} (g_is_number:Gf K mg "is_number" s_is_number n6 a_is_number d_is_number)
  (GV_is_number:FnOk P w K mg base CX0 1 a_is_number d_is_number n6 (spD K fV_is_number 1))
  {a_is_prime:Addr} {d_is_prime:FuncData} (g_is_prime:Gf K mg "is_prime" s_is_prime n1 a_is_prime d_is_prime)
  (GV_is_prime:FnOk P w K mg base CX0 2 a_is_prime d_is_prime n1 (spD K fV_is_prime 1)) :
  FnOk P w K mg base (CX1 P w) 3 a_read_p d_read_p n6 (spX K mg fX_read_p 1) :=
 fn_okX g_read_p.F sc_read_p fun cdv A outer s H E hr => (css_cons (cs_if (CW.ct (cw_or (ct_not (ct_val (ce_call GV_is_number (hr.mono (by decide)) g_is_number.m g_is_number.F.kp g_is_number.b (ca_cons (ce_var 0) ca_nil)))) (cw_one_or (ct_not (ct_val (ce_call GV_is_prime (hr.mono (by decide)) g_is_prime.m g_is_prime.F.kp g_is_prime.b (ca_cons (ce_intS T.n_int (ce_var 0)) ca_nil))))))) (css_one (cs_raise PySem.F.excBase_ValueError rfl Y.m_NoText Y.q_NoText)) css_nil)
 (css_calm (css_one (cs_ret (ce_intS T.n_int (ce_var 0))))))
theorem sc_read_hand:FnScope n6 n6 (defScope s_read_hand):=⟨rfl,rfl,rfl,by decide +kernel,rfl,by decide +kernel,by decide +kernel⟩
theorem okV_read_hand {a_read_hand:Addr} {d_read_hand:FuncData} (T:Tx K mg) {e_NoText e_OpenError e_NoName e_NoRow e_NoRule:Addr} (Y:Ec K mg e_NoText e_OpenError e_NoName e_NoRow e_NoRule) (g_read_hand:Gf K mg "read_hand" s_read_hand n6 a_read_hand d_read_hand) :
  FnOk P w K mg base CX0 1 a_read_hand d_read_hand n6 (spD K fV_read_hand 1) :=
 fn_ok .V g_read_hand.F sc_read_hand fun cdv A outer s H E hr => (css_cons (cs_if (CW.ct (cw_or (ct_ne hr (ce_len T.n_len (ce_var 0)) ce_int) (cw_one_or (ct_ninS (ce_var 0) (ce_gstr T.c_HANDS.choose_spec))))) (css_one cs_bad) css_nil)
 (css_one (cs_ret (ce_index (ce_gstr T.c_HANDS.choose_spec) (ce_var 0)))))
theorem okX_read_hand {a_read_hand:Addr} {d_read_hand:FuncData} (T:Tx K mg) {e_NoText e_OpenError e_NoName e_NoRow e_NoRule:Addr} (Y:Ec K mg e_NoText e_OpenError e_NoName e_NoRow e_NoRule) (g_read_hand:Gf K mg "read_hand" s_read_hand n6 a_read_hand d_read_hand) :
  FnOk P w K mg base (CX1 P w) 1 a_read_hand d_read_hand n6 (spX K mg fX_read_hand 1) :=
 fn_okX g_read_hand.F sc_read_hand fun cdv A outer s H E hr => (css_cons (cs_if (CW.ct (cw_or (ct_ne hr (ce_len T.n_len (ce_var 0)) ce_int) (cw_one_or (ct_ninS (ce_var 0) (ce_gstr T.c_HANDS.choose_spec))))) (css_one (cs_raise PySem.F.excBase_ValueError rfl Y.m_NoText Y.q_NoText)) css_nil)
 (css_calm (css_one (cs_ret (ce_index (ce_gstr T.c_HANDS.choose_spec) (ce_var 0))))))
theorem sc_read_row:FnScope n8 n23 (defScope s_read_row):=⟨rfl,rfl,rfl,by decide +kernel,rfl,by decide +kernel,by decide +kernel⟩
theorem okV_read_row {a_read_row:Addr} {d_read_row:FuncData} (T:Tx K mg) {e_NoText e_OpenError e_NoName e_NoRow e_NoRule:Addr} (Y:Ec K mg e_NoText e_OpenError e_NoName e_NoRow e_NoRule) (g_read_row:Gf K mg "read_row" s_read_row n23 a_read_row d_read_row)
  {a_read_hand:Addr} {d_read_hand:FuncData} (g_read_hand:Gf K mg "read_hand" s_read_hand n6 a_read_hand d_read_hand)
  (GV_read_hand:FnOk P w K mg base CX0 1 a_read_hand d_read_hand n6 (spD K fV_read_hand 1))
  {a_read_number:Addr} {d_read_number:FuncData} (g_read_number:Gf K mg "read_number" s_read_number n22 a_read_number d_read_number)
  (GV_read_number:FnOk P w K mg base CX0 2 a_read_number d_read_number n22 (spD K fV_read_number 3)) :
  FnOk P w K mg base CX0 3 a_read_row d_read_row n23 (spD K fV_read_row 3) :=
 fn_ok .V g_read_row.F sc_read_row fun cdv A outer s H E hr => (css_cons (cs_set 3 sc_read_row.nd (ce_split (ce_var 2) ce_str))
 (css_cons (cs_if (ct_ne hr (ce_len T.n_len (ce_var 3)) (ce_add ce_int (ce_var 1))) (css_one cs_bad) css_nil)
 (css_one (cs_ret (ce_tup (ca_cons (ce_call GV_read_hand (hr.mono (by decide)) g_read_hand.m g_read_hand.F.kp g_read_hand.b (ca_cons (ce_idx (ce_var 3) ce_int) ca_nil)) (ca_cons (ce_tuple T.n_tuple (CF.ce (cf_comp (N':=n7) rfl (compScope_of (defScope s_read_row) rfl n8 rfl (by decide +kernel)) rfl (leaves_name rfl) (ci_seq (ce_cut (ce_var 3) (co_some ce_int) co_none)) (fun _ _ _ _ _ => (cb_name 0 (show n7.Nodup by decide +kernel))) (fun _ _ _ _ _ => pifs_true) (fun _ _ _ _ _ => (ce_call GV_read_number (hr.mono (by decide)) g_read_number.m g_read_number.F.kp g_read_number.b (ca_cons (ce_var 0) (ca_cons ce_int (ca_cons (ce_sub (ce_var 1) ce_int) ca_nil)))))))) ca_nil)))))))
theorem okX_read_row {a_read_row:Addr} {d_read_row:FuncData} (T:Tx K mg) {e_NoText e_OpenError e_NoName e_NoRow e_NoRule:Addr} (Y:Ec K mg e_NoText e_OpenError e_NoName e_NoRow e_NoRule) (g_read_row:Gf K mg "read_row" s_read_row n23 a_read_row d_read_row)
  {a_read_hand:Addr} {d_read_hand:FuncData} (g_read_hand:Gf K mg "read_hand" s_read_hand n6 a_read_hand d_read_hand)
  (GX_read_hand:FnOk P w K mg base (CX1 P w) 1 a_read_hand d_read_hand n6 (spX K mg fX_read_hand 1))
  {a_read_number:Addr} {d_read_number:FuncData} (g_read_number:Gf K mg "read_number" s_read_number n22 a_read_number d_read_number)
  (GX_read_number:FnOk P w K mg base (CX1 P w) 2 a_read_number d_read_number n22 (spX K mg fX_read_number 3)) :
  FnOk P w K mg base (CX1 P w) 3 a_read_row d_read_row n23 (spX K mg fX_read_row 3) :=
 fn_okX g_read_row.F sc_read_row fun cdv A outer s H E hr => (css_cons (cs_set 3 sc_read_row.nd (ce_split (ce_var 2) ce_str))
 (css_cons (cs_if (ct_ne hr (ce_len T.n_len (ce_var 3)) (ce_add ce_int (ce_var 1))) (css_one (cs_raise PySem.F.excBase_ValueError rfl Y.m_NoText Y.q_NoText)) css_nil)
 (css_one (cs_ret (ce_tup (ca_cons (ce_callX GX_read_hand (hr.mono (by decide)) g_read_hand.m g_read_hand.F.kp g_read_hand.b (ca_cons (ce_idx (ce_var 3) ce_int) ca_nil)) (ca_cons (ce_tuple T.n_tuple (CF.ce (cf_compX (N':=n7) (compScope_of (defScope s_read_row) rfl n8 rfl (by decide +kernel)) rfl (leaves_name rfl) (ci_seq (ce_cut (ce_var 3) (co_some ce_int) co_none)) (fun _ _ _ _ _ => (cb_name 0 (show n7.Nodup by decide +kernel))) (fun _ _ _ _ _ _ => (ce_callX GX_read_number (hr.mono (by decide)) g_read_number.m g_read_number.F.kp g_read_number.b (ca_cons (ce_var 0) (ca_cons ce_int (ca_cons (ce_sub (ce_var 1) ce_int) ca_nil)))))))) ca_nil)))))))
theorem sc_read_table:FnScope n10 n24 (defScope s_read_table):=⟨rfl,rfl,rfl,by decide +kernel,rfl,by decide +kernel,by decide +kernel⟩
theorem okV_read_table {a_read_table:Addr} {d_read_table:FuncData} (T:Tx K mg) {e_NoText e_OpenError e_NoName e_NoRow e_NoRule:Addr} (Y:Ec K mg e_NoText e_OpenError e_NoName e_NoRow e_NoRule) (g_read_table:Gf K mg "read_table" s_read_table n24 a_read_table d_read_table)
  {a_read_p:Addr} {d_read_p:FuncData} (g_read_p:Gf K mg "read_p" s_read_p n6 a_read_p d_read_p)
  (GV_read_p:FnOk P w K mg base CX0 3 a_read_p d_read_p n6 (spD K fV_read_p 1))
  {a_read_number:Addr} {d_read_number:FuncData} (g_read_number:Gf K mg "read_number" s_read_number n22 a_read_number d_read_number)
  (GV_read_number:FnOk P w K mg base CX0 2 a_read_number d_read_number n22 (spD K fV_read_number 3))
  {a_read_row:Addr} {d_read_row:FuncData} (g_read_row:Gf K mg "read_row" s_read_row n23 a_read_row d_read_row)
  (GV_read_row:FnOk P w K mg base CX0 3 a_read_row d_read_row n23 (spD K fV_read_row 3)) :
  FnOk P w K mg base CX0 4 a_read_table d_read_table n24 (spD K fV_read_table 1) :=
 fn_ok .V g_read_table.F sc_read_table fun cdv A outer s H E hr => (css_cons (cs_if (ct_not (ct_val (ce_is_str T.n_isinstance T.n_str (ce_var 0)))) (css_one cs_bad) css_nil)
 (css_cons (cs_set 1 sc_read_table.nd (ce_split (ce_var 0) ce_str))
 (css_cons (cs_if (CW.ct (cw_or (ct_lt (ce_len T.n_len (ce_var 1)) ce_int) (cw_one_or (ct_gt (ce_len T.n_len (ce_var 1)) (ce_add ce_int (ce_gint T.c_MOST_ROWS.choose_spec)))))) (css_one cs_bad) css_nil)
 (css_cons (cs_set 2 sc_read_table.nd (ce_call GV_read_p (hr.mono (by decide)) g_read_p.m g_read_p.F.kp g_read_p.b (ca_cons (ce_idx (ce_var 1) ce_int) ca_nil)))
 (css_cons (cs_set 3 sc_read_table.nd (ce_call GV_read_number (hr.mono (by decide)) g_read_number.m g_read_number.F.kp g_read_number.b (ca_cons (ce_idx (ce_var 1) ce_int) (ca_cons ce_int (ca_cons (ce_gint T.c_MOST_WIDE.choose_spec) ca_nil)))))
 (css_one (cs_ret (ce_tup (ca_cons (ce_var 2) (ca_cons (ce_var 3) (ca_cons (ce_tuple T.n_tuple (CF.ce (cf_comp (N':=n9) rfl (compScope_of (defScope s_read_table) rfl n10 rfl (by decide +kernel)) rfl (leaves_name rfl) (ci_seq (ce_cut (ce_var 1) (co_some ce_int) co_none)) (fun _ _ _ _ _ => (cb_name 0 (show n9.Nodup by decide +kernel))) (fun _ _ _ _ _ => pifs_true) (fun _ _ _ _ _ => (ce_call GV_read_row (hr.mono (by decide)) g_read_row.m g_read_row.F.kp g_read_row.b (ca_cons (ce_var 1) (ca_cons (ce_var 2) (ca_cons (ce_var 0) ca_nil)))))))) ca_nil)))))))))))
theorem okX_read_table {a_read_table:Addr} {d_read_table:FuncData} (T:Tx K mg) {e_NoText e_OpenError e_NoName e_NoRow e_NoRule:Addr} (Y:Ec K mg e_NoText e_OpenError e_NoName e_NoRow e_NoRule) (g_read_table:Gf K mg "read_table" s_read_table n24 a_read_table d_read_table)
  {a_read_p:Addr} {d_read_p:FuncData} (g_read_p:Gf K mg "read_p" s_read_p n6 a_read_p d_read_p)
  (GX_read_p:FnOk P w K mg base (CX1 P w) 3 a_read_p d_read_p n6 (spX K mg fX_read_p 1))
  {a_read_number:Addr} {d_read_number:FuncData} (g_read_number:Gf K mg "read_number" s_read_number n22 a_read_number d_read_number)
  (GX_read_number:FnOk P w K mg base (CX1 P w) 2 a_read_number d_read_number n22 (spX K mg fX_read_number 3))
  {a_read_row:Addr} {d_read_row:FuncData} (g_read_row:Gf K mg "read_row" s_read_row n23 a_read_row d_read_row)
  (GX_read_row:FnOk P w K mg base (CX1 P w) 3 a_read_row d_read_row n23 (spX K mg fX_read_row 3)) :
  FnOk P w K mg base (CX1 P w) 4 a_read_table d_read_table n24 (spX K mg fX_read_table 1) :=
 fn_okX g_read_table.F sc_read_table fun cdv A outer s H E hr => (css_cons (cs_if (ct_not (ct_val (ce_is_str T.n_isinstance T.n_str (ce_var 0)))) (css_one (cs_raise PySem.F.excBase_ValueError rfl Y.m_NoText Y.q_NoText)) css_nil)
 (css_cons (cs_set 1 sc_read_table.nd (ce_split (ce_var 0) ce_str))
 (css_cons (cs_if (CW.ct (cw_or (ct_lt (ce_len T.n_len (ce_var 1)) ce_int) (cw_one_or (ct_gt (ce_len T.n_len (ce_var 1)) (ce_add ce_int (ce_gint T.c_MOST_ROWS.choose_spec)))))) (css_one (cs_raise PySem.F.excBase_ValueError rfl Y.m_NoText Y.q_NoText)) css_nil)
 (css_cons (cs_set 2 sc_read_table.nd (ce_callX GX_read_p (hr.mono (by decide)) g_read_p.m g_read_p.F.kp g_read_p.b (ca_cons (ce_idx (ce_var 1) ce_int) ca_nil)))
 (css_cons (cs_set 3 sc_read_table.nd (ce_callX GX_read_number (hr.mono (by decide)) g_read_number.m g_read_number.F.kp g_read_number.b (ca_cons (ce_idx (ce_var 1) ce_int) (ca_cons ce_int (ca_cons (ce_gint T.c_MOST_WIDE.choose_spec) ca_nil)))))
 (css_one (cs_ret (ce_tup (ca_cons (ce_var 2) (ca_cons (ce_var 3) (ca_cons (ce_tuple T.n_tuple (CF.ce (cf_compX (N':=n9) (compScope_of (defScope s_read_table) rfl n10 rfl (by decide +kernel)) rfl (leaves_name rfl) (ci_seq (ce_cut (ce_var 1) (co_some ce_int) co_none)) (fun _ _ _ _ _ => (cb_name 0 (show n9.Nodup by decide +kernel))) (fun _ _ _ _ _ _ => (ce_callX GX_read_row (hr.mono (by decide)) g_read_row.m g_read_row.F.kp g_read_row.b (ca_cons (ce_var 1) (ca_cons (ce_var 2) (ca_cons (ce_var 0) ca_nil)))))))) ca_nil)))))))))))
theorem sc__law_cell:FnScope n25 n26 (defScope s__law_cell):=⟨rfl,rfl,rfl,by decide +kernel,rfl,by decide +kernel,by decide +kernel⟩
theorem okV__law_cell {a__law_cell:Addr} {d__law_cell:FuncData} (T:Tx K mg) {e_NoText e_OpenError e_NoName e_NoRow e_NoRule:Addr} (Y:Ec K mg e_NoText e_OpenError e_NoName e_NoRow e_NoRule) (g__law_cell:Gf K mg "_law_cell" s__law_cell n26 a__law_cell d__law_cell) :
  FnOk P w K mg base CX0 1 a__law_cell d__law_cell n26 (spD K fV__law_cell 2) :=
 fn_ok .V g__law_cell.F sc__law_cell fun cdv A outer s H E hr => (css_cons (cs_if (ct_lt (ce_var 1) (ce_len T.n_len (ce_var 0))) (css_one (cs_ret (ce_idx (ce_var 0) (ce_var 1)))) css_nil)
 (css_cons (cs_set 2 sc__law_cell.nd (ce_add (ce_mul (ce_var 1) ce_int) ce_int))
 (css_cons (cs_if (ct_gt (ce_len T.n_len (ce_var 0)) ce_int) (css_one (cs_set 2 sc__law_cell.nd (ce_add (ce_var 2) (ce_mul (ce_mod (ce_idx (ce_var 0) (ce_mod (ce_mul (ce_var 1) ce_int) (ce_len T.n_len (ce_var 0)))) ce_int) ce_int)))) css_nil)
 (css_one (cs_ret (ce_mod (ce_mul (ce_mod (ce_mul (ce_var 2) (ce_var 2)) ce_int) ce_int) ce_int))))))
theorem sc__law_mixed:FnScope n27 n28 (defScope s__law_mixed):=⟨rfl,rfl,rfl,by decide +kernel,rfl,by decide +kernel,by decide +kernel⟩
theorem okV__law_mixed {a__law_mixed:Addr} {d__law_mixed:FuncData} (T:Tx K mg) {e_NoText e_OpenError e_NoName e_NoRow e_NoRule:Addr} (Y:Ec K mg e_NoText e_OpenError e_NoName e_NoRow e_NoRule) (g__law_mixed:Gf K mg "_law_mixed" s__law_mixed n28 a__law_mixed d__law_mixed) :
  FnOk P w K mg base CX0 1 a__law_mixed d__law_mixed n28 (spD K fV__law_mixed 2) :=
 fn_ok .V g__law_mixed.F sc__law_mixed fun cdv A outer s H E hr => (css_cons (cs_set 2 sc__law_mixed.nd (ce_mod (ce_mul (ce_add (ce_mod (ce_var 0) ce_int) ce_int) (ce_add ce_int (ce_mul (ce_var 1) (ce_var 1)))) ce_int))
 (css_one (cs_ret (ce_mod (ce_mul (ce_mod (ce_mul (ce_var 2) (ce_add (ce_var 2) (ce_mul ce_int (ce_var 1)))) ce_int) ce_int) ce_int))))
theorem sc__law_numbers:FnScope n29 n30 (defScope s__law_numbers):=⟨rfl,rfl,rfl,by decide +kernel,rfl,by decide +kernel,by decide +kernel⟩
theorem okD__law_numbers {a__law_numbers:Addr} {d__law_numbers:FuncData} (T:Tx K mg) {e_NoText e_OpenError e_NoName e_NoRow e_NoRule:Addr} (Y:Ec K mg e_NoText e_OpenError e_NoName e_NoRow e_NoRule) (g__law_numbers:Gf K mg "_law_numbers" s__law_numbers n30 a__law_numbers d__law_numbers)
  {a__law_mixed:Addr} {d__law_mixed:FuncData} (g__law_mixed:Gf K mg "_law_mixed" s__law_mixed n28 a__law_mixed d__law_mixed)
  (GV__law_mixed:FnOk P w K mg base CX0 1 a__law_mixed d__law_mixed n28 (spD K fV__law_mixed 2)) :
  FnOk P w K mg base CX0 2 a__law_numbers d__law_numbers n30 (spD K fD__law_numbers 4) :=
 fn_ok .D g__law_numbers.F sc__law_numbers fun cdv A outer s H E hr => (css_cons (cs_set 4 sc__law_numbers.nd (CF.cell (cf_lst ca_nil)))
 (css_cons (cs_for PassesOwn.never rfl (ci_range1 T.n_range (ce_var 2)) (cb_name 5 sc__law_numbers.nd) (css_one (cs_if (ct_val (ce_var 3)) (css_cons (cs_append (ce_var 4) (ce_mod (ce_var 0) (ce_var 1)))
 (css_one (cs_set 0 sc__law_numbers.nd (ce_div (ce_var 0) (ce_var 1))))) (css_one (cs_append (ce_var 4) (ce_mod (ce_div (ce_call GV__law_mixed (hr.mono (by decide)) g__law_mixed.m g__law_mixed.F.kp g__law_mixed.b (ca_cons (ce_var 0) (ca_cons (ce_var 5) ca_nil))) ce_int) (ce_var 1)))))))
 (css_one (cs_ret (ce_var 4)))))
theorem sc__law_table:FnScope n31 n32 (defScope s__law_table):=⟨rfl,rfl,rfl,by decide +kernel,rfl,by decide +kernel,by decide +kernel⟩
theorem okV__law_table {a__law_table:Addr} {d__law_table:FuncData} (T:Tx K mg) {e_NoText e_OpenError e_NoName e_NoRow e_NoRule:Addr} (Y:Ec K mg e_NoText e_OpenError e_NoName e_NoRow e_NoRule) (g__law_table:Gf K mg "_law_table" s__law_table n32 a__law_table d__law_table)
  {a__law_cell:Addr} {d__law_cell:FuncData} (g__law_cell:Gf K mg "_law_cell" s__law_cell n26 a__law_cell d__law_cell)
  (GV__law_cell:FnOk P w K mg base CX0 1 a__law_cell d__law_cell n26 (spD K fV__law_cell 2))
  {a__law_numbers:Addr} {d__law_numbers:FuncData} (g__law_numbers:Gf K mg "_law_numbers" s__law_numbers n30 a__law_numbers d__law_numbers)
  (GD__law_numbers:FnOk P w K mg base CX0 2 a__law_numbers d__law_numbers n30 (spD K fD__law_numbers 4)) :
  FnOk P w K mg base CX0 3 a__law_table d__law_table n32 (spD K fV__law_table 3) :=
 fn_ok .V g__law_table.F sc__law_table fun cdv A outer s H E hr => (css_cons (cs_set 3 sc__law_table.nd (ce_call GV__law_cell (hr.mono (by decide)) g__law_cell.m g__law_cell.F.kp g__law_cell.b (ca_cons (ce_var 0) (ca_cons (ce_var 1) ca_nil))))
 (css_cons (cs_set 4 sc__law_table.nd (ce_eq hr (ce_mod (ce_var 3) ce_int) ce_int))
 (css_cons (cs_set 5 sc__law_table.nd (ce_add ce_int (ce_mod (ce_div (ce_var 3) ce_int) ce_int)))
 (css_cons (cs_set 6 sc__law_table.nd (ce_mod (ce_div (ce_var 3) ce_int) ce_int))
 (css_cons (cs_set 7 sc__law_table.nd (ce_add ce_int (ce_mod (ce_div (ce_var 3) ce_int) ce_int)))
 (css_cons (cs_if (ct_eq hr (ce_mod (ce_div (ce_var 3) ce_int) ce_int) ce_int) (css_cons (cs_set 5 sc__law_table.nd (ce_add (ce_var 5) ce_int))
 (css_one (cs_set 6 sc__law_table.nd (ce_add (ce_var 6) ce_int)))) css_nil)
 (css_cons (cs_set 8 sc__law_table.nd (CF.cell (cf_lst ca_nil)))
 (css_cons (cs_for PassesOwn.never rfl (ci_range1 T.n_range (ce_var 6)) (cb_name 9 sc__law_table.nd) (css_cons (cs_set 3 sc__law_table.nd (ce_call GV__law_cell (hr.mono (by decide)) g__law_cell.m g__law_cell.F.kp g__law_cell.b (ca_cons (ce_var 0) (ca_cons (ce_add (ce_add (ce_var 1) ce_int) (ce_var 9)) ca_nil))))
 (css_cons (cs_set 10 sc__law_table.nd (ce_call GD__law_numbers (hr.mono (by decide)) g__law_numbers.m g__law_numbers.F.kp g__law_numbers.b (ca_cons (ce_div (ce_var 3) ce_int) (ca_cons (ce_var 2) (ca_cons (ce_var 5) (ca_cons (ce_var 4) ca_nil))))))
 (css_cons (cs_if (ct_eq hr (ce_mod (ce_div (ce_var 3) ce_int) ce_int) ce_int) (css_cons (cs_set 11 sc__law_table.nd (ce_mod (ce_div (ce_var 3) ce_int) (ce_var 2)))
 (css_cons (cs_set 10 sc__law_table.nd (CF.cell (cf_lst (ca_cons ce_int ca_nil))))
 (css_one (cs_while PassesOwn.never (ct_lt (ce_len T.n_len (ce_var 10)) (ce_var 5)) (css_one (cs_append (ce_var 10) (ce_mod (ce_mul (ce_idx (ce_var 10) (ce_neg ce_int)) (ce_var 11)) (ce_var 2)))))))) css_nil)
 (css_one (cs_append (ce_var 8) (ce_tup (ca_cons (ce_mod (ce_var 3) (ce_var 7)) (ca_cons (ce_tuple T.n_tuple (ce_var 10)) ca_nil)))))))))
 (css_one (cs_ret (ce_tup (ca_cons (ce_var 2) (ca_cons (ce_var 5) (ca_cons (ce_tuple T.n_tuple (ce_var 8)) ca_nil))))))))))))))
theorem sc__law_p:FnScope n33 n33 (defScope s__law_p):=⟨rfl,rfl,rfl,by decide +kernel,rfl,by decide +kernel,by decide +kernel⟩
theorem okV__law_p {a__law_p:Addr} {d__law_p:FuncData} (T:Tx K mg) {e_NoText e_OpenError e_NoName e_NoRow e_NoRule:Addr} (Y:Ec K mg e_NoText e_OpenError e_NoName e_NoRow e_NoRule) (g__law_p:Gf K mg "_law_p" s__law_p n33 a__law_p d__law_p) :
  FnOk P w K mg base CX0 1 a__law_p d__law_p n33 (spD K fV__law_p 1) :=
 fn_ok .V g__law_p.F sc__law_p fun cdv A outer s H E hr => (css_one (cs_ret (ce_idx (CF.ce (cf_lst (ca_cons ce_int (ca_cons ce_int (ca_cons ce_int (ca_cons ce_int (ca_cons ce_int (ca_cons ce_int (ca_cons ce_int (ca_cons ce_int ca_nil)))))))))) (ce_mod (ce_var 0) ce_int))))
theorem sc__law_text:FnScope n12 n34 (defScope s__law_text):=⟨rfl,rfl,rfl,by decide +kernel,rfl,by decide +kernel,by decide +kernel⟩
theorem okV__law_text {a__law_text:Addr} {d__law_text:FuncData} (T:Tx K mg) {e_NoText e_OpenError e_NoName e_NoRow e_NoRule:Addr} (Y:Ec K mg e_NoText e_OpenError e_NoName e_NoRow e_NoRule) (g__law_text:Gf K mg "_law_text" s__law_text n34 a__law_text d__law_text) :
  FnOk P w K mg base CX0 1 a__law_text d__law_text n34 (spD K fV__law_text 1) :=
 fn_ok .V g__law_text.F sc__law_text fun cdv A outer s H E hr => (css_cons (cs_set 1 sc__law_text.nd (CF.cell (cf_lst (ca_cons (ce_strI T.n_str (ce_idx (ce_var 0) ce_int)) (ca_cons (ce_strI T.n_str (ce_idx (ce_var 0) ce_int)) ca_nil)))))
 (css_cons (cs_for PassesOwn.never rfl (ci_seq (ce_idx (ce_var 0) ce_int)) (cb_pair 2 3 sc__law_text.nd rfl) (css_one (cs_append (ce_var 1) (ce_join ce_str (ce_add (CF.ce (cf_lst (ca_cons (ce_idx ce_str (ce_var 2)) ca_nil))) (CF.ce (cf_comp (N':=n11) rfl (compScope_of (defScope s__law_text) rfl n12 rfl (by decide +kernel)) rfl (leaves_name rfl) (ci_seq (ce_var 3)) (fun _ _ _ _ _ => (cb_name 0 (show n11.Nodup by decide +kernel))) (fun _ _ _ _ _ => pifs_true) (fun _ _ _ _ _ => (ce_strI T.n_str (ce_var 0))))))))))
 (css_one (cs_ret (ce_join ce_str (ce_var 1))))))
theorem sc__law_number:FnScope n14 n14 (defScope s__law_number):=⟨rfl,rfl,rfl,by decide +kernel,rfl,by decide +kernel,by decide +kernel⟩
theorem okV__law_number {a__law_number:Addr} {d__law_number:FuncData} (T:Tx K mg) {e_NoText e_OpenError e_NoName e_NoRow e_NoRule:Addr} (Y:Ec K mg e_NoText e_OpenError e_NoName e_NoRow e_NoRule) (g__law_number:Gf K mg "_law_number" s__law_number n14 a__law_number d__law_number) :
  FnOk P w K mg base CX0 1 a__law_number d__law_number n14 (spD K fV__law_number 1) :=
 fn_ok .V g__law_number.F sc__law_number fun cdv A outer s H E hr => (css_cons (cs_if (ct_ninA hr (ce_var 0) (CF.ce (cf_comp (N':=n13) rfl (compScope_of (defScope s__law_number) rfl n14 rfl (by decide +kernel)) rfl (leaves_name rfl) (ci_range1 T.n_range ce_int) (fun _ _ _ _ _ => (cb_name 0 (show n13.Nodup by decide +kernel))) (fun _ _ _ _ _ => pifs_true) (fun _ _ _ _ _ => (ce_strI T.n_str (ce_var 0)))))) (css_one (cs_ret ce_non)) css_nil)
 (css_one (cs_ret (ce_intS T.n_int (ce_var 0)))))
theorem sc__law_due:FnScope n16 n35 (defScope s__law_due):=⟨rfl,rfl,rfl,by decide +kernel,rfl,by decide +kernel,by decide +kernel⟩
theorem okV__law_due {a__law_due:Addr} {d__law_due:FuncData} (T:Tx K mg) {e_NoText e_OpenError e_NoName e_NoRow e_NoRule:Addr} (Y:Ec K mg e_NoText e_OpenError e_NoName e_NoRow e_NoRule) (g__law_due:Gf K mg "_law_due" s__law_due n35 a__law_due d__law_due)
  {a__law_number:Addr} {d__law_number:FuncData} (g__law_number:Gf K mg "_law_number" s__law_number n14 a__law_number d__law_number)
  (GV__law_number:FnOk P w K mg base CX0 1 a__law_number d__law_number n14 (spD K fV__law_number 1)) :
  FnOk P w K mg base CX0 2 a__law_due d__law_due n35 (spD K fV__law_due 1) :=
 fn_ok .V g__law_due.F sc__law_due fun cdv A outer s H E hr => (css_cons (cs_set 1 sc__law_due.nd (ce_split (ce_var 0) ce_str))
 (css_cons (cs_if (ct_lt (ce_len T.n_len (ce_var 1)) ce_int) (css_one (cs_ret ce_str)) css_nil)
 (css_cons (cs_set 2 sc__law_due.nd (ce_call GV__law_number (hr.mono (by decide)) g__law_number.m g__law_number.F.kp g__law_number.b (ca_cons (ce_idx (ce_var 1) ce_int) ca_nil)))
 (css_cons (cs_set 3 sc__law_due.nd (ce_call GV__law_number (hr.mono (by decide)) g__law_number.m g__law_number.F.kp g__law_number.b (ca_cons (ce_idx (ce_var 1) ce_int) ca_nil)))
 (css_cons (cs_if (CW.ct (cw_or (ct_isN (ce_var 2)) (cw_or (ct_lt (ce_var 2) ce_int) (cw_one_or (ct_ne hr (CF.ce (cf_comp (N':=n15) rfl (compScope_of (defScope s__law_due) rfl n16 rfl (by decide +kernel)) rfl (leaves_name rfl) (ci_range2 T.n_range ce_int (ce_var 2)) (fun _ _ _ _ _ => (cb_name 0 (show n15.Nodup by decide +kernel))) (fun _ _ _ _ _ => (pifs_test (ct_eq hr (ce_mod (ce_var 1) (ce_var 0)) ce_int))) (fun _ _ _ _ _ => (ce_var 0)))) (CF.ce (cf_lst ca_nil))))))) (css_one (cs_ret ce_str)) css_nil)
 (css_cons (cs_if (CW.ct (cw_or (ct_isN (ce_var 3)) (cw_or (ct_not (ct_chain_le_le ce_int (ce_var 3) ce_int)) (cw_one_or (ct_gt (ce_len T.n_len (ce_var 1)) ce_int))))) (css_one (cs_ret ce_str)) css_nil)
 (css_cons (cs_set 4 sc__law_due.nd (CF.cell (cf_lst ca_nil)))
 (css_cons (cs_for PassesOwn.never rfl (ci_seq (ce_cut (ce_var 1) (co_some ce_int) co_none)) (cb_name 5 sc__law_due.nd) (css_cons (cs_set 6 sc__law_due.nd (ce_split (ce_var 5) ce_str))
 (css_cons (cs_of_setV (cs_set_comp 7 (N':=n14) rfl (compScope_of (defScope s__law_due) rfl n16 rfl (by decide +kernel)) rfl (leaves_name rfl) (ci_seq (ce_cut (ce_var 6) (co_some ce_int) co_none)) (fun _ _ _ _ _ => (cb_name 0 (show n14.Nodup by decide +kernel))) (fun _ _ _ _ _ => pifs_true) (fun _ _ _ _ _ => (ce_call GV__law_number (hr.mono (by decide)) g__law_number.m g__law_number.F.kp g__law_number.b (ca_cons (ce_var 0) ca_nil))) sc__law_due.nd) fun _ _ _ _ h => dComp_val h)
 (css_cons (cs_if (CW.ct (cw_or (ct_ninA hr (ce_idx (ce_var 6) ce_int) (CF.ce (cf_listS T.n_list ce_str))) (cw_one_or (ct_ne hr (ce_len T.n_len (ce_var 7)) (ce_var 3))))) (css_one (cs_ret ce_str)) css_nil)
 (css_cons (cs_if (ct_not (ct_val (ce_all hr T.n_all (CF.ce (cf_comp (N':=n17) rfl (compScope_of (defScope s__law_due) rfl n16 rfl (by decide +kernel)) rfl (leaves_name rfl) (ci_seq (ce_var 7)) (fun _ _ _ _ _ => (cb_name 0 (show n17.Nodup by decide +kernel))) (fun _ _ _ _ _ => pifs_true) (fun _ _ _ _ _ => (ce_and (ce_isnotN (ce_var 0)) (ce_one (ce_lt (ce_var 0) (ce_var 1)))))))))) (css_one (cs_ret ce_str)) css_nil)
 (css_one (cs_append (ce_var 4) (ce_tup (ca_cons (ce_index ce_str (ce_idx (ce_var 6) ce_int)) (ca_cons (ce_tuple T.n_tuple (ce_var 7)) ca_nil))))))))))
 (css_one (cs_ret (ce_tup (ca_cons (ce_var 2) (ca_cons (ce_var 3) (ca_cons (ce_tuple T.n_tuple (ce_var 4)) ca_nil))))))))))))))
theorem sc__law_exchanged:FnScope n36 n37 (defScope s__law_exchanged):=⟨rfl,rfl,rfl,by decide +kernel,rfl,by decide +kernel,by decide +kernel⟩
theorem okV__law_exchanged {a__law_exchanged:Addr} {d__law_exchanged:FuncData} (T:Tx K mg) {e_NoText e_OpenError e_NoName e_NoRow e_NoRule:Addr} (Y:Ec K mg e_NoText e_OpenError e_NoName e_NoRow e_NoRule) (g__law_exchanged:Gf K mg "_law_exchanged" s__law_exchanged n37 a__law_exchanged d__law_exchanged) :
  FnOk P w K mg base CX0 1 a__law_exchanged d__law_exchanged n37 (spD K fV__law_exchanged 3) :=
 fn_ok .V g__law_exchanged.F sc__law_exchanged fun cdv A outer s H E hr => (css_cons (cs_set 3 sc__law_exchanged.nd (ce_mod (ce_var 1) (ce_len T.n_len (ce_var 0))))
 (css_cons (cs_set 4 sc__law_exchanged.nd (ce_mod (ce_div (ce_var 1) ce_int) (ce_len T.n_len (ce_var 0))))
 (css_cons (cs_set 5 sc__law_exchanged.nd (CF.cell (cf_list T.n_list (ce_var 0))))
 (css_cons (cs_setItem 5 (ce_var 3) (ce_idx (ce_var 0) (ce_var 4)))
 (css_cons (cs_setItem 5 (ce_var 4) (ce_idx (ce_var 0) (ce_var 3)))
 (css_one (cs_ret (ce_join (ce_var 2) (ce_var 5)))))))))
theorem sc__law_spoilt:FnScope n38 n39 (defScope s__law_spoilt):=⟨rfl,rfl,rfl,by decide +kernel,rfl,by decide +kernel,by decide +kernel⟩
theorem okV__law_spoilt {a__law_spoilt:Addr} {d__law_spoilt:FuncData} (T:Tx K mg) {e_NoText e_OpenError e_NoName e_NoRow e_NoRule:Addr} (Y:Ec K mg e_NoText e_OpenError e_NoName e_NoRow e_NoRule) (g__law_spoilt:Gf K mg "_law_spoilt" s__law_spoilt n39 a__law_spoilt d__law_spoilt)
  {a__law_exchanged:Addr} {d__law_exchanged:FuncData} (g__law_exchanged:Gf K mg "_law_exchanged" s__law_exchanged n37 a__law_exchanged d__law_exchanged)
  (GV__law_exchanged:FnOk P w K mg base CX0 1 a__law_exchanged d__law_exchanged n37 (spD K fV__law_exchanged 3)) :
  FnOk P w K mg base CX0 2 a__law_spoilt d__law_spoilt n39 (spD K fV__law_spoilt 2) :=
 fn_ok .V g__law_spoilt.F sc__law_spoilt fun cdv A outer s H E hr => (css_cons (cs_set 2 sc__law_spoilt.nd (ce_idx ce_str (ce_mod (ce_div (ce_var 1) ce_int) ce_int)))
 (css_cons (cs_set 3 sc__law_spoilt.nd (ce_mod (ce_div (ce_var 1) ce_int) (ce_add (ce_len T.n_len (ce_var 0)) ce_int)))
 (css_cons (cs_if (ct_eq hr (ce_mod (ce_var 1) ce_int) ce_int) (css_one (cs_ret (ce_add (ce_add (ce_cutS (ce_var 0) co_none (co_some (ce_var 3))) (ce_var 2)) (ce_cutS (ce_var 0) (co_some (ce_var 3)) co_none)))) css_nil)
 (css_cons (cs_if (ct_eq hr (ce_mod (ce_var 1) ce_int) ce_int) (css_one (cs_ret (ce_add (ce_cutS (ce_var 0) co_none (co_some (ce_var 3))) (ce_cutS (ce_var 0) (co_some (ce_add (ce_var 3) ce_int)) co_none)))) css_nil)
 (css_cons (cs_if (ct_eq hr (ce_mod (ce_var 1) ce_int) ce_int) (css_one (cs_ret (ce_add (ce_add (ce_cutS (ce_var 0) co_none (co_some (ce_var 3))) (ce_var 2)) (ce_cutS (ce_var 0) (co_some (ce_add (ce_var 3) ce_int)) co_none)))) css_nil)
 (css_cons (cs_if (ct_eq hr (ce_mod (ce_var 1) ce_int) ce_int) (css_one (cs_ret (ce_call GV__law_exchanged (hr.mono (by decide)) g__law_exchanged.m g__law_exchanged.F.kp g__law_exchanged.b (ca_cons (ce_split (ce_var 0) ce_str) (ca_cons (ce_div (ce_var 1) ce_int) (ca_cons ce_str ca_nil)))))) css_nil)
 (css_cons (cs_if (ct_eq hr (ce_mod (ce_var 1) ce_int) ce_int) (css_one (cs_ret (ce_call GV__law_exchanged (hr.mono (by decide)) g__law_exchanged.m g__law_exchanged.F.kp g__law_exchanged.b (ca_cons (ce_split (ce_var 0) ce_str) (ca_cons (ce_div (ce_var 1) ce_int) (ca_cons ce_str ca_nil)))))) css_nil)
 (css_cons (cs_set 4 sc__law_spoilt.nd (ce_split (ce_var 0) ce_str))
 (css_one (cs_ret (ce_join ce_str (ce_add (ce_var 4) (CF.ce (cf_lst (ca_cons (ce_idx (ce_var 4) (ce_mod (ce_div (ce_var 1) ce_int) (ce_len T.n_len (ce_var 4)))) ca_nil)))))))))))))))
theorem sc__law_read:FnScope n40 n41 (defScope s__law_read):=⟨rfl,rfl,rfl,by decide +kernel,rfl,by decide +kernel,by decide +kernel⟩
theorem okV__law_read {a__law_read:Addr} {d__law_read:FuncData} (T:Tx K mg) {e_NoText e_OpenError e_NoName e_NoRow e_NoRule:Addr} (Y:Ec K mg e_NoText e_OpenError e_NoName e_NoRow e_NoRule) (g__law_read:Gf K mg "_law_read" s__law_read n41 a__law_read d__law_read)
  {a_read_table:Addr} {d_read_table:FuncData} (g_read_table:Gf K mg "read_table" s_read_table n24 a_read_table d_read_table)
  (GX_read_table:FnOk P w K mg base (CX1 P w) 4 a_read_table d_read_table n24 (spX K mg fX_read_table 1)) :
  FnOk P w K mg base CX0 5 a__law_read d__law_read n41 (spD K fV__law_read 2) :=
 fn_ok .V g__law_read.F sc__law_read fun cdv A outer s H E hr => (css_cons (cs_if (ct_val (ce_var 1)) (css_one (cs_try rfl rfl (fun E pn => (css_one (cs_ret (ce_callX GX_read_table (hr.mono (by decide)) g_read_table.m g_read_table.F.kp g_read_table.b (ca_cons (ce_var 0) ca_nil))))) (ch_one (ch_as (i:=2) rfl rfl rfl sc__law_read.nd rfl rfl Y.m_NoText Y.n_NoText (excK_of Y.q_NoText) Y.m_OpenError (excK_of Y.q_OpenError) Y.s0 fun ev => (css_one (cs_ret (ce_idx (CF.ce (cf_lst (ca_cons ce_str (ca_cons ce_str ca_nil)))) (ce_int_ T.n_int (ce_and (ce_isG T.n_isinstance Y.m_NoText (f_one ⟨_,⟨Y.n_NoText,Y.k_NoText⟩,Y.s1⟩) (ce_var 2)) (ce_one (ce_not (ce_isGU [("NoName",_,e_NoName),("NoRow",_,e_NoRow),("NoRule",_,e_NoRule)] T.n_isinstance (fm_cons ⟨rfl,Y.m_NoName,by show (("NoName":Str) == "__debug__") = false; decide⟩ (fm_cons ⟨rfl,Y.m_NoRow,by show (("NoRow":Str) == "__debug__") = false; decide⟩ (fm_cons ⟨rfl,Y.m_NoRule,by show (("NoRule":Str) == "__debug__") = false; decide⟩ fm_nil))) (Nat.le_of_ble_eq_true rfl) (f_one ⟨_,⟨Y.n_NoText,Y.k_NoText⟩,Y.s2⟩) (ce_var 2))))))))))))) css_nil)
 (css_one (cs_try rfl rfl (fun E pn => (css_one (cs_ret (ce_callX GX_read_table (hr.mono (by decide)) g_read_table.m g_read_table.F.kp g_read_table.b (ca_cons (ce_var 0) ca_nil))))) (ch_one (ch_as (i:=2) rfl rfl rfl sc__law_read.nd rfl rfl Y.m_NoText Y.n_NoText (excK_of Y.q_NoText) Y.m_NoText (excK_of Y.q_NoText) Y.s3 fun ev => (css_one (cs_ret (ce_idx (CF.ce (cf_lst (ca_cons ce_str (ca_cons ce_str ca_nil)))) (ce_int_ T.n_int (ce_isGT (Tn:="ValueError") T.n_isinstance T.n_ValueError (by decide +kernel) (f_one ⟨_,⟨Y.n_NoText,Y.k_NoText⟩,Y.s4⟩) (ce_var 2)))))))))))
theorem sc__law_whole:FnScope n42 n42 (defScope s__law_whole):=⟨rfl,rfl,rfl,by decide +kernel,rfl,by decide +kernel,by decide +kernel⟩
theorem okV__law_whole {a__law_whole:Addr} {d__law_whole:FuncData} (T:Tx K mg) {e_NoText e_OpenError e_NoName e_NoRow e_NoRule:Addr} (Y:Ec K mg e_NoText e_OpenError e_NoName e_NoRow e_NoRule) (g__law_whole:Gf K mg "_law_whole" s__law_whole n42 a__law_whole d__law_whole) :
  FnOk P w K mg base CX0 1 a__law_whole d__law_whole n42 (spD K fV__law_whole 2) :=
 fn_ok .V g__law_whole.F sc__law_whole fun cdv A outer s H E hr => (css_one (cs_ret (ce_and (ce_is_int T.n_isinstance T.n_int (ce_var 0)) (ce_and (ce_not (ce_is_bool T.n_isinstance T.n_bool (ce_var 0))) (ce_one (ce_chain_le_lt ce_int (ce_var 0) (ce_var 1)))))))
theorem sc__law_is:FnScope n19 n43 (defScope s__law_is):=⟨rfl,rfl,rfl,by decide +kernel,rfl,by decide +kernel,by decide +kernel⟩
theorem okV__law_is {a__law_is:Addr} {d__law_is:FuncData} (T:Tx K mg) {e_NoText e_OpenError e_NoName e_NoRow e_NoRule:Addr} (Y:Ec K mg e_NoText e_OpenError e_NoName e_NoRow e_NoRule) (g__law_is:Gf K mg "_law_is" s__law_is n43 a__law_is d__law_is)
  {a__law_whole:Addr} {d__law_whole:FuncData} (g__law_whole:Gf K mg "_law_whole" s__law_whole n42 a__law_whole d__law_whole)
  (GV__law_whole:FnOk P w K mg base CX0 1 a__law_whole d__law_whole n42 (spD K fV__law_whole 2)) :
  FnOk P w K mg base CX0 2 a__law_is d__law_is n43 (spD K fV__law_is 1) :=
 fn_ok .V g__law_is.F sc__law_is fun cdv A outer s H E hr => (css_cons (cs_if (CW.ct (cw_or (ct_not (ct_val (ce_is_tuple T.n_isinstance T.n_tuple (ce_var 0)))) (cw_or (ct_ne hr (ce_len T.n_len (ce_var 0)) ce_int) (cw_one_or (ct_not (ct_val (ce_is_tuple T.n_isinstance T.n_tuple (ce_idx (ce_var 0) ce_int)))))))) (css_one (cs_ret ce_bl)) css_nil)
 (css_cons (cs_for PassesOwn.never rfl (ci_seq (ce_idx (ce_var 0) ce_int)) (cb_name 1 sc__law_is.nd) (css_cons (cs_if (CW.ct (cw_or (ct_not (ct_val (ce_is_tuple T.n_isinstance T.n_tuple (ce_var 1)))) (cw_or (ct_not (ct_val (ce_is_tuple T.n_isinstance T.n_tuple (ce_idx (ce_var 1) ce_int)))) (cw_one_or (ct_not (ct_val (ce_call GV__law_whole (hr.mono (by decide)) g__law_whole.m g__law_whole.F.kp g__law_whole.b (ca_cons (ce_idx (ce_var 1) ce_int) (ca_cons ce_int ca_nil))))))))) (css_one (cs_ret ce_bl)) css_nil)
 (css_one (cs_if (ct_not (ct_val (ce_all hr T.n_all (CF.ce (cf_comp (N':=n18) rfl (compScope_of (defScope s__law_is) rfl n19 rfl (by decide +kernel)) rfl (leaves_name rfl) (ci_seq (ce_idx (ce_var 1) ce_int)) (fun _ _ _ _ _ => (cb_name 0 (show n18.Nodup by decide +kernel))) (fun _ _ _ _ _ => pifs_true) (fun _ _ _ _ _ => (ce_call GV__law_whole (hr.mono (by decide)) g__law_whole.m g__law_whole.F.kp g__law_whole.b (ca_cons (ce_var 0) (ca_cons (ce_idx (ce_var 1) ce_int) ca_nil))))))))) (css_one (cs_ret ce_bl)) css_nil))))
 (css_one (cs_ret (ce_and (ce_call GV__law_whole (hr.mono (by decide)) g__law_whole.m g__law_whole.F.kp g__law_whole.b (ca_cons (ce_idx (ce_var 0) ce_int) (ca_cons ce_int ca_nil))) (ce_one (ce_call GV__law_whole (hr.mono (by decide)) g__law_whole.m g__law_whole.F.kp g__law_whole.b (ca_cons (ce_idx (ce_var 0) ce_int) (ca_cons ce_int ca_nil)))))))))
theorem sc_law:FnScope n21 n44 (defScope s_law):=⟨rfl,rfl,rfl,by decide +kernel,rfl,by decide +kernel,by decide +kernel⟩
theorem okV_law {a_law:Addr} {d_law:FuncData} (T:Tx K mg) {e_NoText e_OpenError e_NoName e_NoRow e_NoRule:Addr} (Y:Ec K mg e_NoText e_OpenError e_NoName e_NoRow e_NoRule) (g_law:Gf K mg "law" s_law n44 a_law d_law)
  {a__law_cell:Addr} {d__law_cell:FuncData} (g__law_cell:Gf K mg "_law_cell" s__law_cell n26 a__law_cell d__law_cell)
  (GV__law_cell:FnOk P w K mg base CX0 1 a__law_cell d__law_cell n26 (spD K fV__law_cell 2))
  {a__law_p:Addr} {d__law_p:FuncData} (g__law_p:Gf K mg "_law_p" s__law_p n33 a__law_p d__law_p)
  (GV__law_p:FnOk P w K mg base CX0 1 a__law_p d__law_p n33 (spD K fV__law_p 1))
  {a__law_table:Addr} {d__law_table:FuncData} (g__law_table:Gf K mg "_law_table" s__law_table n32 a__law_table d__law_table)
  (GV__law_table:FnOk P w K mg base CX0 3 a__law_table d__law_table n32 (spD K fV__law_table 3))
  {a__law_text:Addr} {d__law_text:FuncData} (g__law_text:Gf K mg "_law_text" s__law_text n34 a__law_text d__law_text)
  (GV__law_text:FnOk P w K mg base CX0 1 a__law_text d__law_text n34 (spD K fV__law_text 1))
  {a_read_table:Addr} {d_read_table:FuncData} (g_read_table:Gf K mg "read_table" s_read_table n24 a_read_table d_read_table)
  (GV_read_table:FnOk P w K mg base CX0 4 a_read_table d_read_table n24 (spD K fV_read_table 1))
  {a_show_table:Addr} {d_show_table:FuncData} (g_show_table:Gf K mg "show_table" s_show_table n4 a_show_table d_show_table)
  (GV_show_table:FnOk P w K mg base CX0 3 a_show_table d_show_table n4 (spD K fV_show_table 1))
  {a__law_is:Addr} {d__law_is:FuncData} (g__law_is:Gf K mg "_law_is" s__law_is n43 a__law_is d__law_is)
  (GV__law_is:FnOk P w K mg base CX0 2 a__law_is d__law_is n43 (spD K fV__law_is 1))
  {a__law_spoilt:Addr} {d__law_spoilt:FuncData} (g__law_spoilt:Gf K mg "_law_spoilt" s__law_spoilt n39 a__law_spoilt d__law_spoilt)
  (GV__law_spoilt:FnOk P w K mg base CX0 2 a__law_spoilt d__law_spoilt n39 (spD K fV__law_spoilt 2))
  {a__law_read:Addr} {d__law_read:FuncData} (g__law_read:Gf K mg "_law_read" s__law_read n41 a__law_read d__law_read)
  (GV__law_read:FnOk P w K mg base CX0 5 a__law_read d__law_read n41 (spD K fV__law_read 2))
  {a__law_due:Addr} {d__law_due:FuncData} (g__law_due:Gf K mg "_law_due" s__law_due n35 a__law_due d__law_due)
  (GV__law_due:FnOk P w K mg base CX0 2 a__law_due d__law_due n35 (spD K fV__law_due 1)) :
  FnOk P w K mg base CX0 6 a_law d_law n44 (spD K fV_law 1) :=
 fn_ok .V g_law.F sc_law fun cdv A outer s H E hr => (css_cons (cs_set 1 sc_law.nd (ce_call GV__law_table (hr.mono (by decide)) g__law_table.m g__law_table.F.kp g__law_table.b (ca_cons (ce_var 0) (ca_cons ce_int (ca_cons (ce_call GV__law_p (hr.mono (by decide)) g__law_p.m g__law_p.F.kp g__law_p.b (ca_cons (ce_call GV__law_cell (hr.mono (by decide)) g__law_cell.m g__law_cell.F.kp g__law_cell.b (ca_cons (ce_var 0) (ca_cons ce_int ca_nil))) ca_nil)) ca_nil)))))
 (css_cons (cs_set 2 sc_law.nd (ce_mod (ce_call GV__law_cell (hr.mono (by decide)) g__law_cell.m g__law_cell.F.kp g__law_cell.b (ca_cons (ce_var 0) (ca_cons ce_int ca_nil))) ce_int))
 (css_cons (cs_set 1 sc_law.nd (ce_tup (ca_cons (ce_idx (ce_var 1) ce_int) (ca_cons (ce_idx (ce_var 1) ce_int) (ca_cons (ce_tuple T.n_tuple (CF.ce (cf_comp (N':=n20) rfl (compScope_of (defScope s_law) rfl n21 rfl (by decide +kernel)) rfl (leaves_pair rfl rfl) (ci_seq (ce_idx (ce_var 1) ce_int)) (fun _ _ _ _ _ => (cb_pair 0 1 (show n20.Nodup by decide +kernel) rfl)) (fun _ _ _ _ _ => pifs_true) (fun _ _ _ _ _ => (ce_tup (ca_cons (ce_add (ce_var 0) (ce_var 2)) (ca_cons (ce_var 1) ca_nil))))))) ca_nil)))))
 (css_cons (cs_set 3 sc_law.nd (ce_call GV__law_text (hr.mono (by decide)) g__law_text.m g__law_text.F.kp g__law_text.b (ca_cons (ce_var 1) ca_nil)))
 (css_cons (cs_set 4 sc_law.nd (ce_call GV_read_table (hr.mono (by decide)) g_read_table.m g_read_table.F.kp g_read_table.b (ca_cons (ce_var 3) ca_nil)))
 (css_cons (cs_if (CW.ct (cw_or (ct_ne hr (ce_call GV_show_table (hr.mono (by decide)) g_show_table.m g_show_table.F.kp g_show_table.b (ca_cons (ce_var 1) ca_nil)) (ce_var 3)) (cw_or (ct_ne hr (ce_var 4) (ce_var 1)) (cw_one_or (ct_not (ct_val (ce_call GV__law_is (hr.mono (by decide)) g__law_is.m g__law_is.F.kp g__law_is.b (ca_cons (ce_var 4) ca_nil)))))))) (css_one (cs_ret ce_bl)) css_nil)
 (css_cons (cs_for PassesOwn.never rfl (ci_range1 T.n_range ce_int) (cb_name 5 sc_law.nd) (css_cons (cs_set 6 sc_law.nd (ce_mod (ce_call GV__law_cell (hr.mono (by decide)) g__law_cell.m g__law_cell.F.kp g__law_cell.b (ca_cons (ce_var 0) (ca_cons (ce_add ce_int (ce_var 5)) ca_nil))) (ce_pow ce_int ce_int)))
 (css_cons (cs_set 7 sc_law.nd (ce_call GV__law_spoilt (hr.mono (by decide)) g__law_spoilt.m g__law_spoilt.F.kp g__law_spoilt.b (ca_cons (ce_var 3) (ca_cons (ce_var 6) ca_nil))))
 (css_cons (cs_set 4 sc_law.nd (ce_call GV__law_read (hr.mono (by decide)) g__law_read.m g__law_read.F.kp g__law_read.b (ca_cons (ce_var 7) (ca_cons (ce_eq hr (ce_mod (ce_div (ce_var 6) (ce_pow ce_int ce_int)) ce_int) ce_int) ca_nil))))
 (css_one (cs_if (CW.ct (cw_or (ct_ne hr (ce_var 4) (ce_call GV__law_due (hr.mono (by decide)) g__law_due.m g__law_due.F.kp g__law_due.b (ca_cons (ce_var 7) ca_nil))) (cw_one_or (CW.ct (cw_and (ct_ne hr (ce_var 4) ce_str) (cw_one_and (ct_not (ct_val (ce_call GV__law_is (hr.mono (by decide)) g__law_is.m g__law_is.F.kp g__law_is.b (ca_cons (ce_var 4) ca_nil)))))))))) (css_one (cs_ret ce_bl)) css_nil))))))
 (css_cons (cs_set 8 sc_law.nd (ce_idx (CF.ce (cf_lst (ca_cons ce_non (ca_cons ce_int (ca_cons ce_bl (ca_cons (CF.ce (cf_lst (ca_cons (ce_var 3) ca_nil))) (ca_cons (ce_var 1) (ca_cons ce_str (ca_cons ce_str (ca_cons ce_str (ca_cons ce_str (ca_cons ce_str (ca_cons ce_str ca_nil))))))))))))) (ce_mod (ce_call GV__law_cell (hr.mono (by decide)) g__law_cell.m g__law_cell.F.kp g__law_cell.b (ca_cons (ce_var 0) (ca_cons ce_int ca_nil))) ce_int)))
 (css_one (cs_ret (ce_and (ce_eq hr (ce_call GV__law_read (hr.mono (by decide)) g__law_read.m g__law_read.F.kp g__law_read.b (ca_cons (ce_var 8) (ca_cons ce_bl ca_nil))) ce_str) (ce_one (ce_eq hr (ce_call GV__law_read (hr.mono (by decide)) g__law_read.m g__law_read.F.kp g__law_read.b (ca_cons (ce_var 8) (ca_cons ce_bl ca_nil))) ce_str)))))))))))))
theorem us1 {us:List Value} (h:us.length = 1):∃ a0,us = [a0]:=by
 obtain ⟨a0,us,rfl⟩:=us_cons h; rw [List.length_cons] at h; replace h:=Nat.succ.inj h; cases List.eq_nil_of_length_eq_zero h; exact ⟨_,rfl⟩
theorem us2 {us:List Value} (h:us.length = 2):∃ a0 a1,us = [a0,a1]:=by
 obtain ⟨a0,us,rfl⟩:=us_cons h; rw [List.length_cons] at h; replace h:=Nat.succ.inj h; obtain ⟨a1,us,rfl⟩:=us_cons h; rw [List.length_cons] at h; replace h:=Nat.succ.inj h; cases List.eq_nil_of_length_eq_zero h; exact ⟨_,_,rfl⟩
theorem us3 {us:List Value} (h:us.length = 3):∃ a0 a1 a2,us = [a0,a1,a2]:=by
 obtain ⟨a0,us,rfl⟩:=us_cons h; rw [List.length_cons] at h; replace h:=Nat.succ.inj h; obtain ⟨a1,us,rfl⟩:=us_cons h; rw [List.length_cons] at h; replace h:=Nat.succ.inj h; obtain ⟨a2,us,rfl⟩:=us_cons h; rw [List.length_cons] at h; replace h:=Nat.succ.inj h; cases List.eq_nil_of_length_eq_zero h; exact ⟨_,_,_,rfl⟩
theorem us4 {us:List Value} (h:us.length = 4):∃ a0 a1 a2 a3,us = [a0,a1,a2,a3]:=by
 obtain ⟨a0,us,rfl⟩:=us_cons h; rw [List.length_cons] at h; replace h:=Nat.succ.inj h; obtain ⟨a1,us,rfl⟩:=us_cons h; rw [List.length_cons] at h; replace h:=Nat.succ.inj h; obtain ⟨a2,us,rfl⟩:=us_cons h; rw [List.length_cons] at h; replace h:=Nat.succ.inj h; obtain ⟨a3,us,rfl⟩:=us_cons h; rw [List.length_cons] at h; replace h:=Nat.succ.inj h; cases List.eq_nil_of_length_eq_zero h; exact ⟨_,_,_,_,rfl⟩
theorem all_mk {l:PySem.W.OpenLaw} {w:World} {K:PySem.W.Frag} {h:Heap} {mg:Str → Option Value} {fa:Addr} (X:K.In h) (G:h.Ns mainGlobals mg) (hfa:mg "law" = some (.ref fa))
  {f0 f1 f2 f3 f4 f5 f6 f7 f8 f9 f10 f11 f12 f13 f14 f15 f16 f17 f18 f19 f20 f21 f22 f23 f24:Addr} {od0 an0 od1 an1 od2 an2 od3 an3 od4 an4 od5 an5 od6 an6 od7 an7 od8 an8 od9 an9 od10 an10 od11 an11 od12 an12 od13 an13 od14 an14 od15 an15 od16 an16 od17 an17 od18 an18 od19 an19 od20 an20 od21 an21 od22 an22 od23 an23 od24 an24:Option Addr} {sl0 sl1 sl2 sl3 sl4 sl5 sl6 sl7 sl8 sl9 sl10 sl11 sl12 sl13 sl14 sl15 sl16 sl17 sl18 sl19 sl20 sl21 sl22 sl23 sl24:Array (Option Value)} {oc0 kV0 dc0 pm0 cd0 ct0 oc1 kV1 dc1 pm1 cd1 ct1 oc2 kV2 dc2 pm2 cd2 ct2 oc3 kV3 dc3 pm3 cd3 ct3 oc4 kV4 dc4 pm4 cd4 ct4 oc5 kV5 dc5 pm5 cd5 ct5 oc6 kV6 dc6 pm6 cd6 ct6 oc7 kV7 dc7 pm7 cd7 ct7 oc8 kV8 dc8 pm8 cd8 ct8 oc9 kV9 dc9 pm9 cd9 ct9 oc10 kV10 dc10 pm10 cd10 ct10 oc11 kV11 dc11 pm11 cd11 ct11 oc12 kV12 dc12 pm12 cd12 ct12 oc13 kV13 dc13 pm13 cd13 ct13 oc14 kV14 dc14 pm14 cd14 ct14 oc15 kV15 dc15 pm15 cd15 ct15 oc16 kV16 dc16 pm16 cd16 ct16 oc17 kV17 dc17 pm17 cd17 ct17 oc18 kV18 dc18 pm18 cd18 ct18 oc19 kV19 dc19 pm19 cd19 ct19 oc20 kV20 dc20 pm20 cd20 ct20 oc21 kV21 dc21 pm21 cd21 ct21 oc22 kV22 dc22 pm22 cd22 ct22 oc23 kV23 dc23 pm23 cd23 ct23 oc24 kV24 dc24 pm24 cd24 ct24:Value}
  (a0:PySem.W.nsIn K mainGlobals "is_whole" = some (some (.ref f0))) (l0:K.lookup f0 = some ⟨oc0,od0,.func (PySem.W.fnOf "is_whole" "is_whole" (defArgs s_is_whole) (defBody s_is_whole) (defScope s_is_whole) .none kV0 dc0 pm0 an0 cd0 ct0),sl0⟩) (c0:PySem.W.codeIn K cd0 "is_whole" = true) (k0:PySem.W.keepIn K (.ref f0) = true)
  (a1:PySem.W.nsIn K mainGlobals "is_prime" = some (some (.ref f1))) (l1:K.lookup f1 = some ⟨oc1,od1,.func (PySem.W.fnOf "is_prime" "is_prime" (defArgs s_is_prime) (defBody s_is_prime) (defScope s_is_prime) .none kV1 dc1 pm1 an1 cd1 ct1),sl1⟩) (c1:PySem.W.codeIn K cd1 "is_prime" = true) (k1:PySem.W.keepIn K (.ref f1) = true)
  (a2:PySem.W.nsIn K mainGlobals "show_words" = some (some (.ref f2))) (l2:K.lookup f2 = some ⟨oc2,od2,.func (PySem.W.fnOf "show_words" "show_words" (defArgs s_show_words) (defBody s_show_words) (defScope s_show_words) .none kV2 dc2 pm2 an2 cd2 ct2),sl2⟩) (c2:PySem.W.codeIn K cd2 "show_words" = true) (k2:PySem.W.keepIn K (.ref f2) = true)
  (a3:PySem.W.nsIn K mainGlobals "show_row" = some (some (.ref f3))) (l3:K.lookup f3 = some ⟨oc3,od3,.func (PySem.W.fnOf "show_row" "show_row" (defArgs s_show_row) (defBody s_show_row) (defScope s_show_row) .none kV3 dc3 pm3 an3 cd3 ct3),sl3⟩) (c3:PySem.W.codeIn K cd3 "show_row" = true) (k3:PySem.W.keepIn K (.ref f3) = true)
  (a4:PySem.W.nsIn K mainGlobals "show_table" = some (some (.ref f4))) (l4:K.lookup f4 = some ⟨oc4,od4,.func (PySem.W.fnOf "show_table" "show_table" (defArgs s_show_table) (defBody s_show_table) (defScope s_show_table) .none kV4 dc4 pm4 an4 cd4 ct4),sl4⟩) (c4:PySem.W.codeIn K cd4 "show_table" = true) (k4:PySem.W.keepIn K (.ref f4) = true)
  (a5:PySem.W.nsIn K mainGlobals "is_number" = some (some (.ref f5))) (l5:K.lookup f5 = some ⟨oc5,od5,.func (PySem.W.fnOf "is_number" "is_number" (defArgs s_is_number) (defBody s_is_number) (defScope s_is_number) .none kV5 dc5 pm5 an5 cd5 ct5),sl5⟩) (c5:PySem.W.codeIn K cd5 "is_number" = true) (k5:PySem.W.keepIn K (.ref f5) = true)
  (a6:PySem.W.nsIn K mainGlobals "read_number" = some (some (.ref f6))) (l6:K.lookup f6 = some ⟨oc6,od6,.func (PySem.W.fnOf "read_number" "read_number" (defArgs s_read_number) (defBody s_read_number) (defScope s_read_number) .none kV6 dc6 pm6 an6 cd6 ct6),sl6⟩) (c6:PySem.W.codeIn K cd6 "read_number" = true) (k6:PySem.W.keepIn K (.ref f6) = true)
  (a7:PySem.W.nsIn K mainGlobals "read_p" = some (some (.ref f7))) (l7:K.lookup f7 = some ⟨oc7,od7,.func (PySem.W.fnOf "read_p" "read_p" (defArgs s_read_p) (defBody s_read_p) (defScope s_read_p) .none kV7 dc7 pm7 an7 cd7 ct7),sl7⟩) (c7:PySem.W.codeIn K cd7 "read_p" = true) (k7:PySem.W.keepIn K (.ref f7) = true)
  (a8:PySem.W.nsIn K mainGlobals "read_hand" = some (some (.ref f8))) (l8:K.lookup f8 = some ⟨oc8,od8,.func (PySem.W.fnOf "read_hand" "read_hand" (defArgs s_read_hand) (defBody s_read_hand) (defScope s_read_hand) .none kV8 dc8 pm8 an8 cd8 ct8),sl8⟩) (c8:PySem.W.codeIn K cd8 "read_hand" = true) (k8:PySem.W.keepIn K (.ref f8) = true)
  (a9:PySem.W.nsIn K mainGlobals "read_row" = some (some (.ref f9))) (l9:K.lookup f9 = some ⟨oc9,od9,.func (PySem.W.fnOf "read_row" "read_row" (defArgs s_read_row) (defBody s_read_row) (defScope s_read_row) .none kV9 dc9 pm9 an9 cd9 ct9),sl9⟩) (c9:PySem.W.codeIn K cd9 "read_row" = true) (k9:PySem.W.keepIn K (.ref f9) = true)
  (a10:PySem.W.nsIn K mainGlobals "read_table" = some (some (.ref f10))) (l10:K.lookup f10 = some ⟨oc10,od10,.func (PySem.W.fnOf "read_table" "read_table" (defArgs s_read_table) (defBody s_read_table) (defScope s_read_table) .none kV10 dc10 pm10 an10 cd10 ct10),sl10⟩) (c10:PySem.W.codeIn K cd10 "read_table" = true) (k10:PySem.W.keepIn K (.ref f10) = true)
  (a11:PySem.W.nsIn K mainGlobals "_law_cell" = some (some (.ref f11))) (l11:K.lookup f11 = some ⟨oc11,od11,.func (PySem.W.fnOf "_law_cell" "_law_cell" (defArgs s__law_cell) (defBody s__law_cell) (defScope s__law_cell) .none kV11 dc11 pm11 an11 cd11 ct11),sl11⟩) (c11:PySem.W.codeIn K cd11 "_law_cell" = true) (k11:PySem.W.keepIn K (.ref f11) = true)
  (a12:PySem.W.nsIn K mainGlobals "_law_mixed" = some (some (.ref f12))) (l12:K.lookup f12 = some ⟨oc12,od12,.func (PySem.W.fnOf "_law_mixed" "_law_mixed" (defArgs s__law_mixed) (defBody s__law_mixed) (defScope s__law_mixed) .none kV12 dc12 pm12 an12 cd12 ct12),sl12⟩) (c12:PySem.W.codeIn K cd12 "_law_mixed" = true) (k12:PySem.W.keepIn K (.ref f12) = true)
  (a13:PySem.W.nsIn K mainGlobals "_law_numbers" = some (some (.ref f13))) (l13:K.lookup f13 = some ⟨oc13,od13,.func (PySem.W.fnOf "_law_numbers" "_law_numbers" (defArgs s__law_numbers) (defBody s__law_numbers) (defScope s__law_numbers) .none kV13 dc13 pm13 an13 cd13 ct13),sl13⟩) (c13:PySem.W.codeIn K cd13 "_law_numbers" = true) (k13:PySem.W.keepIn K (.ref f13) = true)
  (a14:PySem.W.nsIn K mainGlobals "_law_table" = some (some (.ref f14))) (l14:K.lookup f14 = some ⟨oc14,od14,.func (PySem.W.fnOf "_law_table" "_law_table" (defArgs s__law_table) (defBody s__law_table) (defScope s__law_table) .none kV14 dc14 pm14 an14 cd14 ct14),sl14⟩) (c14:PySem.W.codeIn K cd14 "_law_table" = true) (k14:PySem.W.keepIn K (.ref f14) = true)
  (a15:PySem.W.nsIn K mainGlobals "_law_p" = some (some (.ref f15))) (l15:K.lookup f15 = some ⟨oc15,od15,.func (PySem.W.fnOf "_law_p" "_law_p" (defArgs s__law_p) (defBody s__law_p) (defScope s__law_p) .none kV15 dc15 pm15 an15 cd15 ct15),sl15⟩) (c15:PySem.W.codeIn K cd15 "_law_p" = true) (k15:PySem.W.keepIn K (.ref f15) = true)
  (a16:PySem.W.nsIn K mainGlobals "_law_text" = some (some (.ref f16))) (l16:K.lookup f16 = some ⟨oc16,od16,.func (PySem.W.fnOf "_law_text" "_law_text" (defArgs s__law_text) (defBody s__law_text) (defScope s__law_text) .none kV16 dc16 pm16 an16 cd16 ct16),sl16⟩) (c16:PySem.W.codeIn K cd16 "_law_text" = true) (k16:PySem.W.keepIn K (.ref f16) = true)
  (a17:PySem.W.nsIn K mainGlobals "_law_number" = some (some (.ref f17))) (l17:K.lookup f17 = some ⟨oc17,od17,.func (PySem.W.fnOf "_law_number" "_law_number" (defArgs s__law_number) (defBody s__law_number) (defScope s__law_number) .none kV17 dc17 pm17 an17 cd17 ct17),sl17⟩) (c17:PySem.W.codeIn K cd17 "_law_number" = true) (k17:PySem.W.keepIn K (.ref f17) = true)
  (a18:PySem.W.nsIn K mainGlobals "_law_due" = some (some (.ref f18))) (l18:K.lookup f18 = some ⟨oc18,od18,.func (PySem.W.fnOf "_law_due" "_law_due" (defArgs s__law_due) (defBody s__law_due) (defScope s__law_due) .none kV18 dc18 pm18 an18 cd18 ct18),sl18⟩) (c18:PySem.W.codeIn K cd18 "_law_due" = true) (k18:PySem.W.keepIn K (.ref f18) = true)
  (a19:PySem.W.nsIn K mainGlobals "_law_exchanged" = some (some (.ref f19))) (l19:K.lookup f19 = some ⟨oc19,od19,.func (PySem.W.fnOf "_law_exchanged" "_law_exchanged" (defArgs s__law_exchanged) (defBody s__law_exchanged) (defScope s__law_exchanged) .none kV19 dc19 pm19 an19 cd19 ct19),sl19⟩) (c19:PySem.W.codeIn K cd19 "_law_exchanged" = true) (k19:PySem.W.keepIn K (.ref f19) = true)
  (a20:PySem.W.nsIn K mainGlobals "_law_spoilt" = some (some (.ref f20))) (l20:K.lookup f20 = some ⟨oc20,od20,.func (PySem.W.fnOf "_law_spoilt" "_law_spoilt" (defArgs s__law_spoilt) (defBody s__law_spoilt) (defScope s__law_spoilt) .none kV20 dc20 pm20 an20 cd20 ct20),sl20⟩) (c20:PySem.W.codeIn K cd20 "_law_spoilt" = true) (k20:PySem.W.keepIn K (.ref f20) = true)
  (a21:PySem.W.nsIn K mainGlobals "_law_read" = some (some (.ref f21))) (l21:K.lookup f21 = some ⟨oc21,od21,.func (PySem.W.fnOf "_law_read" "_law_read" (defArgs s__law_read) (defBody s__law_read) (defScope s__law_read) .none kV21 dc21 pm21 an21 cd21 ct21),sl21⟩) (c21:PySem.W.codeIn K cd21 "_law_read" = true) (k21:PySem.W.keepIn K (.ref f21) = true)
  (a22:PySem.W.nsIn K mainGlobals "_law_whole" = some (some (.ref f22))) (l22:K.lookup f22 = some ⟨oc22,od22,.func (PySem.W.fnOf "_law_whole" "_law_whole" (defArgs s__law_whole) (defBody s__law_whole) (defScope s__law_whole) .none kV22 dc22 pm22 an22 cd22 ct22),sl22⟩) (c22:PySem.W.codeIn K cd22 "_law_whole" = true) (k22:PySem.W.keepIn K (.ref f22) = true)
  (a23:PySem.W.nsIn K mainGlobals "_law_is" = some (some (.ref f23))) (l23:K.lookup f23 = some ⟨oc23,od23,.func (PySem.W.fnOf "_law_is" "_law_is" (defArgs s__law_is) (defBody s__law_is) (defScope s__law_is) .none kV23 dc23 pm23 an23 cd23 ct23),sl23⟩) (c23:PySem.W.codeIn K cd23 "_law_is" = true) (k23:PySem.W.keepIn K (.ref f23) = true)
  (a24:PySem.W.nsIn K mainGlobals "law" = some (some (.ref f24))) (l24:K.lookup f24 = some ⟨oc24,od24,.func (PySem.W.fnOf "law" "law" (defArgs s_law) (defBody s_law) (defScope s_law) .none kV24 dc24 pm24 an24 cd24 ct24),sl24⟩) (c24:PySem.W.codeIn K cd24 "law" = true) (k24:PySem.W.keepIn K (.ref f24) = true)
  (z0:PySem.W.nsIn K mainGlobals "ValueError" = some none)
  (z1:PySem.W.nsIn K mainGlobals "all" = some none)
  (z2:PySem.W.nsIn K mainGlobals "bool" = some none)
  (z3:PySem.W.nsIn K mainGlobals "int" = some none)
  (z4:PySem.W.nsIn K mainGlobals "isinstance" = some none)
  (z5:PySem.W.nsIn K mainGlobals "len" = some none)
  (z6:PySem.W.nsIn K mainGlobals "list" = some none)
  (z7:PySem.W.nsIn K mainGlobals "range" = some none)
  (z8:PySem.W.nsIn K mainGlobals "str" = some none)
  (z9:PySem.W.nsIn K mainGlobals "tuple" = some none)
  {tk0:Nat} (y0:PySem.W.nsIn K mainGlobals "FIGURES" = some (some (.str "0123456789" tk0)))
  {tk1:Nat} (y1:PySem.W.nsIn K mainGlobals "GREATEST_P" = some (some (.int 97 tk1)))
  {tk2:Nat} (y2:PySem.W.nsIn K mainGlobals "HANDS" = some (some (.str "abcdefghij" tk2)))
  {tk3:Nat} (y3:PySem.W.nsIn K mainGlobals "LETTERS" = some (some (.str "abcdefghijklmnopqrstuvwxyz" tk3)))
  {tk4:Nat} (y4:PySem.W.nsIn K mainGlobals "MOST_FIGURES" = some (some (.int 60 tk4)))
  {tk5:Nat} (y5:PySem.W.nsIn K mainGlobals "MOST_ROWS" = some (some (.int 24 tk5)))
  {tk6:Nat} (y6:PySem.W.nsIn K mainGlobals "MOST_WIDE" = some (some (.int 12 tk6)))
  {e_NoText e_OpenError e_NoName e_NoRow e_NoRule:Addr}
  (x0:PySem.W.specialIn K (.builtin "object.__class__") "__get__" = some (some (.builtin "getset_descriptor.__get__")))
  (x1:PySem.W.takesIn K (.builtin "object.__class__") = some true)
  (x2:PySem.W.nsIn K mainGlobals "NoText" = some (some (.ref e_NoText)))
  (x3:PySem.W.excIn K e_NoText [.type "ValueError",.type "Exception",.type "BaseException",.type "object"] "ValueError.__new__" = true)
  (x4:PySem.W.findIn K (.ref e_NoText) "__getattribute__" = some (some (.builtin "BaseException.__getattribute__")))
  (x5:PySem.W.findIn K (.ref e_NoText) "__getattr__" = some none)
  (x6:PySem.W.findIn K (.ref e_NoText) "__class__" = some (some (.builtin "object.__class__")))
  (x7:PySem.W.mroIn K e_NoText (.type "object") = some true)
  (x8:PySem.W.mroIn K e_NoText (.type "BaseException") = some true)
  (x9:PySem.W.nsIn K mainGlobals "OpenError" = some (some (.ref e_OpenError)))
  (x10:PySem.W.excIn K e_OpenError [.type "ValueError",.type "Exception",.type "BaseException",.type "object"] "ValueError.__new__" = true)
  (x11:PySem.W.nsIn K mainGlobals "NoName" = some (some (.ref e_NoName)))
  (x12:PySem.W.nsIn K mainGlobals "NoRow" = some (some (.ref e_NoRow)))
  (x13:PySem.W.nsIn K mainGlobals "NoRule" = some (some (.ref e_NoRule)))
  (x14:PySem.W.mroIn K e_NoText (.ref e_OpenError) = some true)
  (x15:PySem.W.kitOne K (.ref e_NoText) (.ref e_NoText) = some true)
  (x16:PySem.W.kitAny K (.ref e_NoText) [.ref e_NoName,.ref e_NoRow,.ref e_NoRule] = some false)
  (x17:PySem.W.mroIn K e_NoText (.ref e_NoText) = some true)
  (x18:PySem.W.kitOne K (.ref e_NoText) (.type "ValueError") = some true)
  : ∃ fd:FuncData,(∀ (s:Shared) (v:Value),BindsTo s fd ⟨[v],[]⟩ [("_law_script",v)]) ∧ ∀ base:Heap,K.In base → base.Ns mainGlobals mg → FnOk l.prog w K mg base CX0 6 fa fd ["_law_script"] (spD K fV_law 1):=by
 have e:=hfa.symm.trans (PySem.W.mg_of X G a24)
 cases e
 have T:Tx K mg:=⟨PySem.W.mg_none_of X G z0,PySem.W.mg_none_of X G z1,PySem.W.mg_none_of X G z2,PySem.W.mg_none_of X G z3,PySem.W.mg_none_of X G z4,PySem.W.mg_none_of X G z5,PySem.W.mg_none_of X G z6,PySem.W.mg_none_of X G z7,PySem.W.mg_none_of X G z8,PySem.W.mg_none_of X G z9,⟨_,PySem.W.mg_of X G y0⟩,⟨_,PySem.W.mg_of X G y1⟩,⟨_,PySem.W.mg_of X G y2⟩,⟨_,PySem.W.mg_of X G y3⟩,⟨_,PySem.W.mg_of X G y4⟩,⟨_,PySem.W.mg_of X G y5⟩,⟨_,PySem.W.mg_of X G y6⟩⟩
 have Y:Ec K mg e_NoText e_OpenError e_NoName e_NoRow e_NoRule:=⟨PySem.W.mg_of X G x2,x2,x3,⟨⟨x4,x5,x6,x0,x1,x7,x8⟩,cls_of x7⟩,PySem.W.mg_of X G x9,x9,x10,PySem.W.mg_of X G x11,x11,PySem.W.mg_of X G x12,x12,PySem.W.mg_of X G x13,x13,mroK_of x14,x15,x16,mroK_of x17,x18⟩
 have F0:=fun_mk (st:=s_is_whole) l0 c0 k0
 have g0:Gf K mg "is_whole" s_is_whole ["thing"] _ _:=⟨F0,F0.binds (ps:=["thing"]) fun _ _ _ _ _ _ us hl => by obtain ⟨_,rfl⟩:=us1 hl; rfl,PySem.W.mg_of X G a0⟩
 have F1:=fun_mk (st:=s_is_prime) l1 c1 k1
 have g1:Gf K mg "is_prime" s_is_prime ["thing"] _ _:=⟨F1,F1.binds (ps:=["thing"]) fun _ _ _ _ _ _ us hl => by obtain ⟨_,rfl⟩:=us1 hl; rfl,PySem.W.mg_of X G a1⟩
 have F2:=fun_mk (st:=s_show_words) l2 c2 k2
 have g2:Gf K mg "show_words" s_show_words ["things"] _ _:=⟨F2,F2.binds (ps:=["things"]) fun _ _ _ _ _ _ us hl => by obtain ⟨_,rfl⟩:=us1 hl; rfl,PySem.W.mg_of X G a2⟩
 have F3:=fun_mk (st:=s_show_row) l3 c3 k3
 have g3:Gf K mg "show_row" s_show_row ["row"] _ _:=⟨F3,F3.binds (ps:=["row"]) fun _ _ _ _ _ _ us hl => by obtain ⟨_,rfl⟩:=us1 hl; rfl,PySem.W.mg_of X G a3⟩
 have F4:=fun_mk (st:=s_show_table) l4 c4 k4
 have g4:Gf K mg "show_table" s_show_table ["table"] _ _:=⟨F4,F4.binds (ps:=["table"]) fun _ _ _ _ _ _ us hl => by obtain ⟨_,rfl⟩:=us1 hl; rfl,PySem.W.mg_of X G a4⟩
 have F5:=fun_mk (st:=s_is_number) l5 c5 k5
 have g5:Gf K mg "is_number" s_is_number ["word"] _ _:=⟨F5,F5.binds (ps:=["word"]) fun _ _ _ _ _ _ us hl => by obtain ⟨_,rfl⟩:=us1 hl; rfl,PySem.W.mg_of X G a5⟩
 have F6:=fun_mk (st:=s_read_number) l6 c6 k6
 have g6:Gf K mg "read_number" s_read_number ["word","least","greatest"] _ _:=⟨F6,F6.binds (ps:=["word","least","greatest"]) fun _ _ _ _ _ _ us hl => by obtain ⟨_,_,_,rfl⟩:=us3 hl; rfl,PySem.W.mg_of X G a6⟩
 have F7:=fun_mk (st:=s_read_p) l7 c7 k7
 have g7:Gf K mg "read_p" s_read_p ["word"] _ _:=⟨F7,F7.binds (ps:=["word"]) fun _ _ _ _ _ _ us hl => by obtain ⟨_,rfl⟩:=us1 hl; rfl,PySem.W.mg_of X G a7⟩
 have F8:=fun_mk (st:=s_read_hand) l8 c8 k8
 have g8:Gf K mg "read_hand" s_read_hand ["word"] _ _:=⟨F8,F8.binds (ps:=["word"]) fun _ _ _ _ _ _ us hl => by obtain ⟨_,rfl⟩:=us1 hl; rfl,PySem.W.mg_of X G a8⟩
 have F9:=fun_mk (st:=s_read_row) l9 c9 k9
 have g9:Gf K mg "read_row" s_read_row ["p","wide","text"] _ _:=⟨F9,F9.binds (ps:=["p","wide","text"]) fun _ _ _ _ _ _ us hl => by obtain ⟨_,_,_,rfl⟩:=us3 hl; rfl,PySem.W.mg_of X G a9⟩
 have F10:=fun_mk (st:=s_read_table) l10 c10 k10
 have g10:Gf K mg "read_table" s_read_table ["text"] _ _:=⟨F10,F10.binds (ps:=["text"]) fun _ _ _ _ _ _ us hl => by obtain ⟨_,rfl⟩:=us1 hl; rfl,PySem.W.mg_of X G a10⟩
 have F11:=fun_mk (st:=s__law_cell) l11 c11 k11
 have g11:Gf K mg "_law_cell" s__law_cell ["_law_script","_law_k"] _ _:=⟨F11,F11.binds (ps:=["_law_script","_law_k"]) fun _ _ _ _ _ _ us hl => by obtain ⟨_,_,rfl⟩:=us2 hl; rfl,PySem.W.mg_of X G a11⟩
 have F12:=fun_mk (st:=s__law_mixed) l12 c12 k12
 have g12:Gf K mg "_law_mixed" s__law_mixed ["_law_cell_here","_law_k"] _ _:=⟨F12,F12.binds (ps:=["_law_cell_here","_law_k"]) fun _ _ _ _ _ _ us hl => by obtain ⟨_,_,rfl⟩:=us2 hl; rfl,PySem.W.mg_of X G a12⟩
 have F13:=fun_mk (st:=s__law_numbers) l13 c13 k13
 have g13:Gf K mg "_law_numbers" s__law_numbers ["_law_cell_here","_law_p_here","_law_count","_law_by_digits"] _ _:=⟨F13,F13.binds (ps:=["_law_cell_here","_law_p_here","_law_count","_law_by_digits"]) fun _ _ _ _ _ _ us hl => by obtain ⟨_,_,_,_,rfl⟩:=us4 hl; rfl,PySem.W.mg_of X G a13⟩
 have F14:=fun_mk (st:=s__law_table) l14 c14 k14
 have g14:Gf K mg "_law_table" s__law_table ["_law_script","_law_at","_law_p_here"] _ _:=⟨F14,F14.binds (ps:=["_law_script","_law_at","_law_p_here"]) fun _ _ _ _ _ _ us hl => by obtain ⟨_,_,_,rfl⟩:=us3 hl; rfl,PySem.W.mg_of X G a14⟩
 have F15:=fun_mk (st:=s__law_p) l15 c15 k15
 have g15:Gf K mg "_law_p" s__law_p ["_law_cell_here"] _ _:=⟨F15,F15.binds (ps:=["_law_cell_here"]) fun _ _ _ _ _ _ us hl => by obtain ⟨_,rfl⟩:=us1 hl; rfl,PySem.W.mg_of X G a15⟩
 have F16:=fun_mk (st:=s__law_text) l16 c16 k16
 have g16:Gf K mg "_law_text" s__law_text ["_law_table_here"] _ _:=⟨F16,F16.binds (ps:=["_law_table_here"]) fun _ _ _ _ _ _ us hl => by obtain ⟨_,rfl⟩:=us1 hl; rfl,PySem.W.mg_of X G a16⟩
 have F17:=fun_mk (st:=s__law_number) l17 c17 k17
 have g17:Gf K mg "_law_number" s__law_number ["_law_word"] _ _:=⟨F17,F17.binds (ps:=["_law_word"]) fun _ _ _ _ _ _ us hl => by obtain ⟨_,rfl⟩:=us1 hl; rfl,PySem.W.mg_of X G a17⟩
 have F18:=fun_mk (st:=s__law_due) l18 c18 k18
 have g18:Gf K mg "_law_due" s__law_due ["_law_text_here"] _ _:=⟨F18,F18.binds (ps:=["_law_text_here"]) fun _ _ _ _ _ _ us hl => by obtain ⟨_,rfl⟩:=us1 hl; rfl,PySem.W.mg_of X G a18⟩
 have F19:=fun_mk (st:=s__law_exchanged) l19 c19 k19
 have g19:Gf K mg "_law_exchanged" s__law_exchanged ["_law_some","_law_cell_here","_law_between"] _ _:=⟨F19,F19.binds (ps:=["_law_some","_law_cell_here","_law_between"]) fun _ _ _ _ _ _ us hl => by obtain ⟨_,_,_,rfl⟩:=us3 hl; rfl,PySem.W.mg_of X G a19⟩
 have F20:=fun_mk (st:=s__law_spoilt) l20 c20 k20
 have g20:Gf K mg "_law_spoilt" s__law_spoilt ["_law_text_here","_law_cell_here"] _ _:=⟨F20,F20.binds (ps:=["_law_text_here","_law_cell_here"]) fun _ _ _ _ _ _ us hl => by obtain ⟨_,_,rfl⟩:=us2 hl; rfl,PySem.W.mg_of X G a20⟩
 have F21:=fun_mk (st:=s__law_read) l21 c21 k21
 have g21:Gf K mg "_law_read" s__law_read ["_law_text_here","_law_base"] _ _:=⟨F21,F21.binds (ps:=["_law_text_here","_law_base"]) fun _ _ _ _ _ _ us hl => by obtain ⟨_,_,rfl⟩:=us2 hl; rfl,PySem.W.mg_of X G a21⟩
 have F22:=fun_mk (st:=s__law_whole) l22 c22 k22
 have g22:Gf K mg "_law_whole" s__law_whole ["_law_number_here","_law_beyond"] _ _:=⟨F22,F22.binds (ps:=["_law_number_here","_law_beyond"]) fun _ _ _ _ _ _ us hl => by obtain ⟨_,_,rfl⟩:=us2 hl; rfl,PySem.W.mg_of X G a22⟩
 have F23:=fun_mk (st:=s__law_is) l23 c23 k23
 have g23:Gf K mg "_law_is" s__law_is ["_law_found"] _ _:=⟨F23,F23.binds (ps:=["_law_found"]) fun _ _ _ _ _ _ us hl => by obtain ⟨_,rfl⟩:=us1 hl; rfl,PySem.W.mg_of X G a23⟩
 have F24:=fun_mk (st:=s_law) l24 c24 k24
 have g24:Gf K mg "law" s_law ["_law_script"] _ _:=⟨F24,F24.binds (ps:=["_law_script"]) fun _ _ _ _ _ _ us hl => by obtain ⟨_,rfl⟩:=us1 hl; rfl,PySem.W.mg_of X G a24⟩
 refine ⟨PySem.W.fnOf "law" "law" (defArgs s_law) (defBody s_law) (defScope s_law) .none kV24 dc24 pm24 an24 cd24 ct24,fun s v => .of_eq rfl,fun base _ _ => ?_⟩
 have oV0:=okV_is_whole (P:=l.prog) (w:=w) (base:=base) T Y g0
 have oV1:=okV_is_prime (P:=l.prog) (w:=w) (base:=base) T Y g1 g0 oV0
 have oV2:=okV_show_words (P:=l.prog) (w:=w) (base:=base) T Y g2
 have oV3:=okV_show_row (P:=l.prog) (w:=w) (base:=base) T Y g3 g2 oV2
 have oV4:=okV_show_table (P:=l.prog) (w:=w) (base:=base) T Y g4 g3 oV3
 have oV5:=okV_is_number (P:=l.prog) (w:=w) (base:=base) T Y g5
 have oV6:=okV_read_number (P:=l.prog) (w:=w) (base:=base) T Y g6 g5 oV5
 have oX6:=okX_read_number (P:=l.prog) (w:=w) (base:=base) T Y g6 g5 oV5
 have oV7:=okV_read_p (P:=l.prog) (w:=w) (base:=base) T Y g7 g5 oV5 g1 oV1
 have oX7:=okX_read_p (P:=l.prog) (w:=w) (base:=base) T Y g7 g5 oV5 g1 oV1
 have oV8:=okV_read_hand (P:=l.prog) (w:=w) (base:=base) T Y g8
 have oX8:=okX_read_hand (P:=l.prog) (w:=w) (base:=base) T Y g8
 have oV9:=okV_read_row (P:=l.prog) (w:=w) (base:=base) T Y g9 g8 oV8 g6 oV6
 have oX9:=okX_read_row (P:=l.prog) (w:=w) (base:=base) T Y g9 g8 oX8 g6 oX6
 have oV10:=okV_read_table (P:=l.prog) (w:=w) (base:=base) T Y g10 g7 oV7 g6 oV6 g9 oV9
 have oX10:=okX_read_table (P:=l.prog) (w:=w) (base:=base) T Y g10 g7 oX7 g6 oX6 g9 oX9
 have oV11:=okV__law_cell (P:=l.prog) (w:=w) (base:=base) T Y g11
 have oV12:=okV__law_mixed (P:=l.prog) (w:=w) (base:=base) T Y g12
 have oD13:=okD__law_numbers (P:=l.prog) (w:=w) (base:=base) T Y g13 g12 oV12
 have oV14:=okV__law_table (P:=l.prog) (w:=w) (base:=base) T Y g14 g11 oV11 g13 oD13
 have oV15:=okV__law_p (P:=l.prog) (w:=w) (base:=base) T Y g15
 have oV16:=okV__law_text (P:=l.prog) (w:=w) (base:=base) T Y g16
 have oV17:=okV__law_number (P:=l.prog) (w:=w) (base:=base) T Y g17
 have oV18:=okV__law_due (P:=l.prog) (w:=w) (base:=base) T Y g18 g17 oV17
 have oV19:=okV__law_exchanged (P:=l.prog) (w:=w) (base:=base) T Y g19
 have oV20:=okV__law_spoilt (P:=l.prog) (w:=w) (base:=base) T Y g20 g19 oV19
 have oV21:=okV__law_read (P:=l.prog) (w:=w) (base:=base) T Y g21 g10 oX10
 have oV22:=okV__law_whole (P:=l.prog) (w:=w) (base:=base) T Y g22
 have oV23:=okV__law_is (P:=l.prog) (w:=w) (base:=base) T Y g23 g22 oV22
 have oV24:=okV_law (P:=l.prog) (w:=w) (base:=base) T Y g24 g11 oV11 g15 oV15 g14 oV14 g16 oV16 g10 oV10 g4 oV4 g23 oV23 g20 oV20 g21 oV21 g18 oV18
 exact oV24
end
theorem walk {l:PySem.W.OpenLaw} {q:Program} {loose:List Str} {XP:(Str → Option Value) → Heap → Prop} {YP:World → Heap → Prop} {d:DefRec} {K:Params → PySem.W.Frag} (hn:l.most = some 63) (hdf:d.params.defaults = [])
  (hlaw:∀ ns:List Int,ns.length ≤ 63 → ∃ μ',fV_law [.val (.lst (ns.map T.int))] [] = .ok (.val (.bl true)) μ')
  (hY:∀ (w:World) (h:Heap),YP w h → (K w.params).In h)
  (F:∀ (w:World) (mg:Str → Option Value) (fa:Addr) (h:Heap),(K w.params).In h → h.Ns mainGlobals mg → mg d.name = some (.ref fa) →
   ∃ fd:FuncData,(∀ (s:Shared) (u:Value),BindsTo s fd ⟨[u],[]⟩ [("_law_script",u)]) ∧ ∀ base:Heap,(K w.params).In base → base.Ns mainGlobals mg → FnOk l.prog w (K w.params) mg base CX0 6 fa fd ["_law_script"] (spD (K w.params) fV_law 1)) :
  PySem.W.WalkO q loose XP YP l.row.toRowW d [] (fun f vs => PySem.call f vs) :=
 L2.walk_of (n:=63) (k:=6) (x:="_law_script") (CX:=fun _ => CX0) (sp:=fun w => spD (K w.params) fV_law 1) hn (by decide) hdf ⟨rfl,by decide,by decide⟩ hY F (fun w H a ns hl hO hS => sp_law hlaw hl hS) fun _ _ _ _ _ z => z
end Fw.k91
end
namespace Fw
open PySem Fw Fw.H
theorem r_sSeq_is (a b:DS) (e:Slots) (μ:Store):sSeq a b e μ = (a e μ).seq b:=rfl
theorem r_sSet_is (i:Nat) (d:D) (e:Slots) (μ:Store):sSet i d e μ = (d e μ).toS e fun x μ1 => .nx (e.set i (some x)) μ1:=rfl
theorem r_sRet_is (d:D) (e:Slots) (μ:Store):sRet d e μ = (d e μ).toS e fun x μ1 => .rt x μ1:=rfl
theorem r_sIf_is (c:D) (a b:DS) (e:Slots) (μ:Store):sIf c a b e μ = (c e μ).toS e fun x μ1 => (R.lift (asB x) μ1).toS e fun k μ1 => if k = true then a e μ1 else b e μ1:=rfl
theorem r_sNil_is (e:Slots) (μ:Store):sNil e μ = .nx e μ:=rfl
theorem r_dUn_is (f:T → Option T) (a:D) (e:Slots) (μ:Store):dUn f a e μ = (a e μ).bind fun x μ1 => R.lift (ap1 f (rd μ1 x)) μ1:=rfl
theorem r_dBin_is (f:T → T → Option T) (a b:D) (e:Slots) (μ:Store):dBin f a b e μ = (a e μ).bind fun x μ1 => (b e μ1).bind fun y μ2 => R.lift (ap2 f (rd μ2 x) (rd μ2 y)) μ2:=rfl
theorem r_dVar_is (i:Nat) (e:Slots) (μ:Store):dVar i e μ = R.lift (slot e i) μ:=rfl
theorem r_dC_is (t:T) (e:Slots) (μ:Store):dC t e μ = .ok (.val t) μ:=rfl
theorem r_dCall_is (f:FN) (ds:List D) (e:Slots) (μ:Store):dCall f ds e μ = (dArgs ds e μ).bind fun xs μ1 => f xs μ1:=rfl
theorem r_dArgs_cons (d:D) (ds:List D) (e:Slots) (μ:Store):dArgs (d :: ds) e μ = (d e μ).bind fun x μ1 => (dArgs ds e μ1).bind fun xs μ2 => .ok (x :: xs) μ2:=rfl
theorem r_dArgs_nil (e:Slots) (μ:Store):dArgs [] e μ = .ok [] μ:=rfl
theorem r_dTup_is (ds:List D) (e:Slots) (μ:Store):dTup ds e μ = (dArgs ds e μ).bind fun xs μ1 => (frzs xs μ1).bind fun ts μ2 => .ok (.val (.tup ts)) μ2:=rfl
theorem r_dLst_is (ds:List D) (e:Slots) (μ:Store):dLst ds e μ = (dArgs ds e μ).bind fun xs μ1 => (frzs xs μ1).bind fun ts μ2 => .ok (.val (.lst ts)) μ2:=rfl
theorem r_dIdx_is (a b:D) (e:Slots) (μ:Store):dIdx a b e μ = (a e μ).bind fun x μ1 => (b e μ1).bind fun y μ2 => R.lift ((rd μ2 y).bind fun u => idxS μ2 x u) μ2:=rfl
theorem r_dLen_is (a:D) (e:Slots) (μ:Store):dLen a e μ = (a e μ).bind fun x μ1 => R.lift ((lenS μ1 x).map SV.val) μ1:=rfl
theorem r_cal_is (f:FN) (xs:List SV) (μ:Store):cal f xs μ = (f xs μ).calm:=rfl
theorem r_slot_succ (x:Option SV) (e:Slots) (i:Nat):slot (x :: e) (i + 1) = slot e i:=rfl
theorem r_slot_zero (x:SV) (e:Slots):slot (some x :: e) 0 = some x:=rfl
theorem r_R_toS_ok {α:Type} (a:α) (e:Slots) (μ:Store) (f:α → Store → RS):(R.ok a μ).toS e f = f a μ:=rfl
theorem r_rd_val (μ:Store) (t:T):rd μ (.val t) = some t:=rfl
theorem r_ap1_some (f:T → Option T) (t:T):ap1 f (some t) = (f t).map SV.val:=rfl
theorem r_ap2_some (f:T → T → Option T) (t u:T):ap2 f (some t) (some u) = (f t u).map SV.val:=rfl
theorem r_asB_bl (b:Bool):asB (.val (.bl b)) = some b:=rfl
theorem r_frz_val (μ:Store) (t:T):frz (.val t) μ = .ok t μ:=rfl
theorem r_frzs_nil (μ:Store):frzs [] μ = .ok [] μ:=rfl
theorem r_frzs_cons (x:SV) (xs:List SV) (μ:Store):frzs (x :: xs) μ = (frz x μ).bind fun t μ1 => (frzs xs μ1).bind fun ts μ2 => .ok (t :: ts) μ2:=rfl
theorem r_RS_seq_nx (e:Slots) (μ:Store) (f:Slots → Store → RS):(RS.nx e μ).seq f = f e μ:=rfl
theorem r_R_lift_some {α:Type} (a:α) (μ:Store):R.lift (some a) μ = .ok a μ:=rfl
theorem r_R_bind_ok {α β:Type} (a:α) (μ:Store) (f:α → Store → R β):(R.ok a μ).bind f = f a μ:=rfl
theorem r_R_calm_ok {α:Type} (a:α) (μ:Store):(R.ok a μ).calm = .ok a μ:=rfl
theorem r_dAnd_is (a b:D) (e:Slots) (μ:Store):dAnd a b e μ = (a e μ).bind fun x μ1 => (R.lift (asB x) μ1).bind fun k μ1 => if k = true then b e μ1 else .ok (.val (.bl false)) μ1:=rfl
theorem r_dOr_is (a b:D) (e:Slots) (μ:Store):dOr a b e μ = (a e μ).bind fun x μ1 => (R.lift (asB x) μ1).bind fun k μ1 => if k = true then .ok (.val (.bl true)) μ1 else b e μ1:=rfl
theorem r_dNot_is (a:D) (e:Slots) (μ:Store):dNot a e μ = (a e μ).bind fun x μ1 => (R.lift (asB x) μ1).bind fun k μ1 => .ok (.val (.bl (!k))) μ1:=rfl
theorem r_iSeq_is (d:D) (e:Slots) (μ:Store):iSeq d e μ = (d e μ).bind fun x μ1 => (R.lift ((rd μ1 x).bind seqItems) μ1).bind fun ts μ1 => .ok ⟨ts,fun μ' => rd μ' x = rd μ1 x⟩ μ1:=rfl
theorem r_sFor_is (it:DI) (b:BD) (body:DS) (e:Slots) (μ:Store):sFor it b body e μ = (it e μ).toS e fun W μ1 => forL W.same b body W.items e μ1:=rfl
theorem r_ini_nil (e:Slots):ini [] e = []:=rfl
theorem r_ini_none (mp:List (Option Nat)) (e:Slots):ini (none :: mp) e = none :: ini mp e:=rfl
theorem r_ini_some (j:Nat) (mp:List (Option Nat)) (e:Slots):ini (some j :: mp) e = slot e j :: ini mp e:=rfl
theorem r_bName_is (i:Nat) (t:T) (e:Slots):bName i t e = some (e.set i (some (.val t))):=rfl
end Fw
local macro_rules
 | `(tactic| simp_all! only [$ls,*]) => do
  let mut xs:Array (Lean.TSyntax `Lean.Parser.Tactic.simpLemma):=#[]
  for n in "r_sSeq_is r_sSet_is r_sRet_is r_sIf_is r_sNil_is r_dUn_is r_dBin_is r_dVar_is r_dC_is r_dCall_is r_dArgs_cons r_dArgs_nil r_dTup_is r_dLst_is r_dIdx_is r_dLen_is r_cal_is r_slot_succ r_slot_zero r_R_toS_ok r_rd_val r_ap1_some r_ap2_some r_asB_bl r_frz_val r_frzs_nil r_frzs_cons r_RS_seq_nx r_R_lift_some r_R_bind_ok r_R_calm_ok r_dAnd_is r_dOr_is r_dNot_is r_iSeq_is r_sFor_is r_ini_nil r_ini_none r_ini_some r_bName_is".splitOn " " do xs:=xs.push (← `(Lean.Parser.Tactic.simpLemma| $(Lean.mkIdent (`Fw ++ n.toName)):term))
  `(tactic| try dsimp only [$(xs),*,Nat.reduceAdd,Nat.reduceSub,List.set_cons_succ,List.set_cons_zero,$ls,*])
namespace Fw.E
open PySem Fw Fw.H
structure Rw (p:Int) (L:Nat) (r:List Int):Prop where
 len:r.length = L
 lo:∀ x ∈ r,0 ≤ x
 hi:∀ x ∈ r,x < p
noncomputable def g (r:List Int) (k:Nat):Int:=r.getD k 0
theorem g_at (r:List Int) (k:Nat) (h:k < r.length):g r k = r[k]:=by simp [g,h]
theorem Rw.g0 {p:Int} {L:Nat} {r:List Int} (h:Rw p L r) (hp:0 < p) (k:Nat):0 ≤ g r k ∧ g r k < p:=by
 by_cases hk:k < r.length
 ·rw [g_at r k hk]; exact ⟨h.lo _ (List.getElem_mem hk),h.hi _ (List.getElem_mem hk)⟩
 ·have:g r k = 0:=by simp [g,Nat.le_of_not_lt hk]
  lia
theorem md (x p:Int):∃ t,x % p = x - p * t:=⟨x / p,Int.emod_def x p⟩
noncomputable def sub (p n:Int) (row lead:List Int):List Int:=(row.zip lead).map fun q => (q.1 - n * q.2) % p
noncomputable def fr (p:Int) (row lead:List Int) (q:Nat):List Int:=if g row q = 0 then row else sub p (g row q) row lead
end Fw.E
namespace Fw.E
open PySem Fw Fw.H
noncomputable abbrev Ld:=Nat × List Int
noncomputable def led (p:Int) (ls:List Ld) (fresh:List Int) (f:Nat):List Ld:=ls.map fun q => (q.1,fr p q.2 fresh f)
end Fw.E
namespace Fw.E
open PySem Fw Fw.H
noncomputable abbrev li (r:List Int):T:=.lst (r.map T.int)
theorem atg {r:List Int} {k:Int} (h0:0 ≤ k) (h1:k < r.length):atI (r.map T.int) k = some (.int (g r k.toNat)):=by
 rw [atI_map h0 h1,g_at r k.toNat (by lia)]
end Fw.E
namespace Fw.E
open PySem Fw Fw.H
noncomputable def dk (ls:List Ld):List (Key × T):=ls.map fun q => ((.inl (q.1:Int):Key),li q.2)
end Fw.E
namespace Fw.E
open PySem Fw Fw.H
seal RS.goes
end Fw.E
namespace Fw.E
open PySem Fw Fw.H
theorem Rw.append {p:Int} {n k:Nat} {r s:List Int} (h:Rw p n r) (h':Rw p k s):Rw p (n + k) (r ++ s):=by
 refine ⟨by simp [h.len,h'.len],fun x hx => ?_,fun x hx => ?_⟩
 ·rcases List.mem_append.mp hx with z | z
  ·exact h.lo x z
  ·exact h'.lo x z
 ·rcases List.mem_append.mp hx with z | z
  ·exact h.hi x z
  ·exact h'.hi x z
noncomputable def col (lines:List (List Int)) (j:Nat):List Int:=lines.map fun l => g l j
end Fw.E
namespace Fw.E
open PySem Fw Fw.H
noncomputable abbrev tu (r:List Int):T:=.tup (r.map T.int)
theorem lenS_of {μ:Store} {x:SV} {ts:List T} (h:rd μ x = some (.lst ts)):lenS μ x = some (.int ts.length):=by
 cases x with
 | val t => cases h; rfl
 | cel k => rw [lenS_cel,h]; rfl
 | box xs => cases h
theorem idxS_of {μ:Store} {x:SV} {ts:List T} {i:Int} (h:rd μ x = some (.lst ts)):idxS μ x (.int i) = (atI ts i).map SV.val:=by
 cases x with
 | val t => cases h; rfl
 | cel k => rw [idxS_cel,h]; rfl
 | box xs => cases h
end Fw.E
namespace Fw.E
open PySem Fw Fw.H
seal RS.goes
end Fw.E
namespace Fw.E
open PySem Fw Fw.H
seal RS.goes
end Fw.E
namespace Fw.E
open PySem Fw Fw.H
end Fw.E
namespace Fw.E
open PySem Fw Fw.H
theorem Rw.snoc {p:Int} {n:Nat} {r:List Int} {a:Int} (h:Rw p n r) (h0:0 ≤ a) (h1:a < p):Rw p (n + 1) (r ++ [a]) :=
 Rw.append h (k:=1) ⟨rfl,by simp; exact h0,by simp; exact h1⟩
end Fw.E
namespace Fw.E
open PySem Fw Fw.H
end Fw.E
namespace Fw.F
open PySem Fw Fw.H Fw.E
noncomputable abbrev Rows:=List (Int × List Int)
noncomputable def rt (q:Int × List Int):T:=.tup [.int q.1,tu q.2]
noncomputable def tb (p:Int) (w:Nat) (rows:Rows):T:=.tup [.int p,.int w,.tup (rows.map rt)]
structure Tbl (p:Int) (w:Nat) (rows:Rows):Prop where
 pr:IsPr p
 w0:0 < w
 w1:w ≤ 12
 n:rows.length ≤ 24
 li:∀ q ∈ rows,Rw p w q.2
theorem gc_new (μ:Store) (t:T):gc μ.length (.cel μ.length) (μ ++ [(true,t)]) = .ok (.cel μ.length) (μ ++ [(true,t)]):=by
 unfold gc
 simp
end Fw.F
namespace Fw
open PySem Fw Fw.H Fw.E
theorem fEq_nil:fEq (.lst []) (.lst []) = some (.bl true):=fEq_ints [] []
theorem fNe_nil:fNe (.lst []) (.lst []) = some (.bl false):=fNe_ints [] []
theorem st_all (x:SV) (μ:Store):R.ok x (μ.take μ.length) = R.ok x μ:=by rw [List.take_length]
noncomputable def stw:=And.intro @sSeq_is <| And.intro @sSet_is <| And.intro @sRet_is <| And.intro @sIf_is <| And.intro @sExpr_is <| And.intro @sNil_is <| And.intro @sAppend_is <| And.intro @sUnp_is <| And.intro @sClear_is <| And.intro @sSetItem_is <| And.intro @sPutD_is <| And.intro @sFor_is <| And.intro @dCell_is <| And.intro @dUn_is <| And.intro @dBin_is <| And.intro @dVar_is <| And.intro @dC_is <| And.intro @dCall_is <| And.intro @dArgs_cons <| And.intro @dArgs_nil <| And.intro @dNot_is <| And.intro @dAnd_is <| And.intro @dOr_is <| And.intro @dIfx_is <| And.intro @dTup_is <| And.intro @dLst_is <| And.intro @dIdx_is <| And.intro @dLen_is <| And.intro @dComp_is <| And.intro @dCut_is <| And.intro @dOpt_none <| And.intro @dOpt_some <| And.intro @dBox_is <| And.intro @iSeq_is <| And.intro @iRange1_is <| And.intro @iRange2_is <| And.intro @iZip_is <| And.intro @iEnum_is <| And.intro @iItems_is <| And.intro @ini_nil <| And.intro @ini_none <| And.intro @ini_some <| And.intro @bName_is <| And.intro @bTup_pair <| And.intro @bTup_tri <| And.intro @cal_is <| And.intro @fnV_is <| And.intro @fnD_is <| And.intro @fnK_is <| And.intro @starts_is <| And.intro @slot_succ <| And.intro @slot_zero <| And.intro @slot_none <| And.intro @R.toS_ok <| And.intro @rd_val <| And.intro @rd_cel <| And.intro @asV_val <| And.intro @ap1_some <| And.intro @ap2_some <| And.intro @toCell_val <| And.intro @asB_bl <| And.intro @asInt_int <| And.intro @frz_val <| And.intro @frzs_nil <| And.intro @frzs_cons <| And.intro @RS.seq_nx <| And.intro @RS.seq_rt <| And.intro @endV_rt <| And.intro @endD_rt <| And.intro @endK_rt <| And.intro @ice_val <| And.intro @fList_lst <| And.intro @fTuple_lst <| And.intro @fTuple_tup <| And.intro @seqItems_lst <| And.intro @seqItems_tup <| And.intro @lenS_lst <| And.intro @lenS_tup <| And.intro @idxS_lst <| And.intro @idxS_tup <| And.intro @idxS_box <| And.intro @fAdd_int <| And.intro @fSub_int <| And.intro @fMod_int <| And.intro @fDiv_int <| And.intro @fNeg_int <| And.intro @fMulA_l <| And.intro @fMulA_r <| And.intro @fLt_int <| And.intro @fLe_int <| And.intro @fGt_int <| And.intro @fGe_int <| And.intro @fEq_int <| And.intro @fNe_int <| And.intro @fEq_str <| And.intro @fNe_str <| And.intro @fEq_ints <| And.intro @fNe_ints <| And.intro @fEq_nil <| And.intro @fNe_nil <| And.intro @st_all <| And.intro @fBand_one <| And.intro @fInt_int <| And.intro @fInt_bl <| And.intro @notNon_non <| And.intro @notNon_int <| And.intro @fRev_lst <| And.intro @R.lift_some <| And.intro @R.bind_ok <| And.intro @R.calm_ok <| And.intro @atI_zero <| And.intro @atI_one <| @atI_two
noncomputable def stc:=And.intro @Option.bind_some.{0,0} <| And.intro @Option.map_some.{0,0} <| And.intro @List.map_cons.{0,0} <| And.intro @List.map_nil.{0,0} <| And.intro @List.length_cons.{0} <| And.intro @List.length_nil.{0} <| And.intro @List.cons_append.{0} <| And.intro @List.nil_append.{0} <| And.intro @List.replicate_succ.{0} <| And.intro @List.replicate_zero.{0} <| And.intro @List.set_cons_succ.{0} <| And.intro @List.set_cons_zero.{0} <| And.intro @List.getElem?_cons_zero.{0} <| And.intro @List.getElem?_cons_succ.{0} <| And.intro @List.take_zero.{0} <| And.intro @List.take_nil.{0} <| And.intro @beq_self_eq_true.{0} <| And.intro @if_false.{1} <| And.intro @if_true.{1} <| And.intro @Bool.false_eq_true <| And.intro @Bool.not_true <| @Bool.not_false
end Fw
namespace Fw
open PySem Fw Fw.H Fw.E
end Fw
local macro_rules
 | `(tactic| simp! only [$ls,*]) => do
  let mut xs:Array (Lean.TSyntax `Lean.Parser.Tactic.simpLemma):=#[]
  for n in "r_sSeq_is r_sSet_is r_sRet_is r_sIf_is r_sNil_is r_dUn_is r_dBin_is r_dVar_is r_dC_is r_dCall_is r_dArgs_cons r_dArgs_nil r_dTup_is r_dLst_is r_dIdx_is r_dLen_is r_cal_is r_slot_succ r_slot_zero r_R_toS_ok r_rd_val r_ap1_some r_ap2_some r_asB_bl r_frz_val r_frzs_nil r_frzs_cons r_RS_seq_nx r_R_lift_some r_R_bind_ok r_R_calm_ok r_dAnd_is r_dOr_is r_dNot_is r_iSeq_is r_sFor_is r_ini_nil r_ini_none r_ini_some r_bName_is sExpr_is sAppend_is sUnp_is sClear_is sSetItem_is sPutD_is dCell_is dIfx_is dComp_is dCut_is dOpt_none dOpt_some dBox_is iRange1_is iRange2_is iZip_is iEnum_is iItems_is bTup_pair bTup_tri fnV_is fnD_is fnK_is starts_is slot_none rd_cel asV_val toCell_val asInt_int RS.seq_rt endV_rt endD_rt endK_rt ice_val fList_lst fTuple_lst fTuple_tup seqItems_lst seqItems_tup lenS_lst lenS_tup idxS_lst idxS_tup idxS_box fAdd_int fSub_int fMod_int fDiv_int fNeg_int fMulA_l fMulA_r fLt_int fLe_int fGt_int fGe_int fEq_int fNe_int fEq_str fNe_str fEq_ints fNe_ints fEq_nil fNe_nil st_all fBand_one fInt_int fInt_bl notNon_non notNon_int fRev_lst atI_zero atI_one atI_two".splitOn " " do xs:=xs.push (← `(Lean.Parser.Tactic.simpLemma| $(Lean.mkIdent (`Fw ++ n.toName)):term))
  `(tactic| simp (disch:=first | decide | omega | assumption) only [$(xs),*,Fw.stc,Nat.reduceAdd,Nat.reduceSub,$ls,*])
local macro_rules
 | `(tactic| dsimp! only [$ls,*]) => do
  let mut xs:Array (Lean.TSyntax `Lean.Parser.Tactic.simpLemma):=#[]
  for n in "r_slot_succ r_slot_zero r_dVar_is r_dC_is r_rd_val r_frz_val r_asB_bl sSeq_is sSet_is sRet_is sIf_is sExpr_is sNil_is sAppend_is sUnp_is sClear_is sSetItem_is sPutD_is sFor_is dCell_is dUn_is dBin_is dCall_is dArgs_cons dArgs_nil dNot_is dAnd_is dOr_is dIfx_is dTup_is dLst_is dIdx_is dLen_is dComp_is dCut_is dOpt_none dOpt_some dBox_is iSeq_is iRange1_is iRange2_is iZip_is iEnum_is iItems_is ini_nil ini_none ini_some bName_is bTup_pair bTup_tri cal_is fnV_is fnD_is fnK_is starts_is slot_none R.toS_ok rd_cel asV_val ap1_some ap2_some toCell_val asInt_int frzs_nil frzs_cons RS.seq_nx RS.seq_rt endV_rt endD_rt endK_rt ice_val fList_lst fTuple_lst fTuple_tup seqItems_lst seqItems_tup lenS_lst lenS_tup idxS_lst idxS_tup idxS_box fAdd_int fSub_int fMod_int fDiv_int fNeg_int fMulA_l fMulA_r fLt_int fLe_int fGt_int fGe_int fEq_int fNe_int fEq_str fNe_str fEq_ints fNe_ints fEq_nil fNe_nil st_all fBand_one fInt_int fInt_bl notNon_non notNon_int fRev_lst R.lift_some R.bind_ok R.calm_ok atI_zero atI_one atI_two".splitOn " " do xs:=xs.push (← `(Lean.Parser.Tactic.simpLemma| $(Lean.mkIdent (`Fw ++ n.toName)):term))
  `(tactic| simp (disch:=first | decide | omega | assumption) only [$(xs),*,Fw.stc,Nat.reduceAdd,Nat.reduceSub,$ls,*])
namespace Fw.U
open PySem Fw Builtin.Str
noncomputable abbrev tl (s:Str):List Nat:=s.cps.toList
theorem tl_app (a b:Str):tl (a ++ b) = tl a ++ tl b:=Array.toList_append
theorem tl_len (s:Str):s.length = (tl s).length:=by show s.cps.size = _; simp
theorem tl_inj {a b:Str} (h:tl a = tl b):a = b:=by
 cases a; cases b
 simp only [tl,Array.toList_inj] at h
 rw [h]
theorem tl_join (sep:Str):∀ (ws:List Str) (w:Str),tl (Txt.join sep (w :: ws)) = tl w ++ ws.flatMap fun x => tl sep ++ tl x:=by
 have go:∀ (ws:List Str) (acc:Array Nat),(ws.foldl (fun acc p => acc ++ sep.cps ++ p.cps) acc).toList = acc.toList ++ ws.flatMap fun x => tl sep ++ tl x:=by
  intro ws
  induction ws with
  | nil => intro acc; simp
  | cons w ws ih => intro acc; rw [List.foldl_cons,ih]; simp [tl]
 intro ws w
 exact go ws w.cps
theorem join_ok {sep:Str} {ws:List Str} {n:Nat} (h:∀ w ∈ ws,w.length ≤ n) (hz:ws.length * (n + sep.length) ≤ szL):JoinOk sep ws = true:=by
 have go:∀ (ws:List Str) (a:Nat),(∀ w ∈ ws,w.length ≤ n) → ws.foldl (fun a w => a + w.length + sep.length) a ≤ a + ws.length * (n + sep.length):=by
  intro ws
  induction ws with
  | nil => intro a _; simp
  | cons w ws ih =>
   intro a h
   rw [List.foldl_cons]
   refine Nat.le_trans (ih _ fun x hx => h x (List.mem_cons_of_mem _ hx)) ?_
   have:=h w List.mem_cons_self
   rw [List.length_cons,Nat.succ_mul]
   omega
 unfold JoinOk tooLong
 have:=go ws 0 h
 rw [List.foldl_toArray]
 have e:szL = sizeLine:=rfl
 simp only [Bool.not_eq_true',decide_eq_false_iff_not,gt_iff_lt,Nat.not_lt]
 rw [← e]
 omega
end Fw.U
namespace Fw.U
open PySem Fw Fw.H Fw.E
noncomputable def dgs (w:Str):Bool:=w.cps.toList.all fun c => decide (48 ≤ c ∧ c ≤ 57)
noncomputable def num (w:Str):Bool:=!(w == "") && decide (w.length ≤ 60) && !(decide (w.cps.toList.head? = some 48) && !(w == "0")) && dgs w
noncomputable def val (w:Str):Nat:=NumText.digitsVal w.cps.toList
theorem dgs_all {w:Str} (h:dgs w = true):NumText.AllDigits w.cps.toList:=fun c hc => by
 have:=List.all_eq_true.mp h c hc
 simpa using this
theorem str_ext {a b:Str} (h:a.cps.toList = b.cps.toList):a = b:=Str.ext' (Array.toList_inj.mp h)
theorem empty_iff (w:Str):(w == "") = true ↔ w.cps.toList = []:=by
 rw [beq_iff_eq]
 constructor
 ·intro e; rw [e]; rfl
 ·intro e; exact str_ext e
theorem num_parts {w:Str} (h:num w = true):w.cps.toList ≠ [] ∧ w.length ≤ 60 ∧ (w.cps.toList.head? = some 48 → w = "0") ∧ dgs w = true:=by
 unfold num at h
 simp only [Bool.and_eq_true,Bool.not_eq_true',decide_eq_true_eq] at h
 obtain ⟨⟨⟨h1,h2⟩,h3⟩,h4⟩:=h
 refine ⟨fun e => ?_,h2,fun e => ?_,h4⟩
 ·rw [(empty_iff w).mpr e] at h1; cases h1
 ·rw [decide_eq_true e] at h3
  simpa using h3
theorem int_of_num {w:Str} (h:num w = true):fIntS (.str w) = some (.int (val w)):=by
 obtain ⟨h1,h2,_,h4⟩:=num_parts h
 have e:=PySem.intText_digits (dgs_all h4) h1 (by lia)
 show (if w.length ≤ 640 then (PySem.intText? w).map T.int else none) = _
 rw [if_pos (by lia)]
 have e':PySem.intText? w = some ((NumText.digitsVal w.cps.toList:Nat):Int):=e
 rw [e']; rfl
theorem one_digit:∀ c ∈ List.range 10,(⟨#[48 + c]⟩:Str) = Str.ofString (toString (c:Int)):=by decide +kernel
theorem two_digits:∀ c ∈ List.range 10,∀ d ∈ List.range 10,c ≠ 0 → (⟨#[48 + c,48 + d]⟩:Str) = Str.ofString (toString ((10 * c + d:Nat):Int)):=by decide +kernel
theorem fold_ge:∀ (cs:List Nat) (a:Nat),a ≤ cs.foldl (fun acc c => acc * 10 + (c - 48)) a
 | [],a => Nat.le_refl _
 | c :: cs,a => Nat.le_trans (by lia) (fold_ge cs (a * 10 + (c - 48)))
noncomputable def nstrs (p:Nat):List Str:=(List.range p).map fun (k:Nat) => Str.ofString (toString (k:Int))
end Fw.U
namespace Fw.U
open PySem Fw Fw.H Fw.E
theorem sp_is:(" ":Str) = ⟨#[32]⟩:=by decide +kernel
theorem tl_sp:tl (" ":Str) = [32]:=by decide +kernel
theorem split_ne (x y:Str):Txt.split x y ≠ []:=by
 unfold Txt.split
 split
 ·simp
 ·split
  ·simp
  ·rw [StrLaws.partsBetween_eq]
   obtain ⟨p,r,e⟩:=StrLaws.partsFrom_ne x y.length 0 (Builtin.Str.occurrences x y 0 x.length (x.length + 1))
   rw [e]; simp
noncomputable def fl (ws:List Str):List Nat:=ws.flatMap fun x => 32 :: tl x
theorem fl_cons (w:Str) (ws:List Str):fl (w :: ws) = 32 :: (tl w ++ fl ws):=by simp [fl]
theorem tl_joined (w:Str) (ws:List Str):tl (Txt.join " " (w :: ws)) = tl w ++ fl ws:=by
 rw [tl_join,tl_sp]; rfl
theorem part_eq:∀ (a b F G:List Nat),32 ∉ a → 32 ∉ b → (F = [] ∨ F.head? = some 32) → (G = [] ∨ G.head? = some 32) → a ++ F = b ++ G → a = b ∧ F = G
 | [],[],F,G,_,_,_,_,e => ⟨rfl,e⟩
 | [],y :: b,F,G,_,hb,hF,_,e => by
  exfalso
  rcases hF with rfl | hF
  ·cases e
  ·cases F with
   | nil => cases hF
   | cons z F =>
    have e:z :: F = y :: (b ++ G):=e
    cases e
    cases hF
    exact hb List.mem_cons_self
 | x :: a,[],F,G,ha,_,_,hG,e => by
  exfalso
  rcases hG with rfl | hG
  ·cases e
  ·cases G with
   | nil => cases hG
   | cons z G =>
    have e:x :: (a ++ F) = z :: G:=e
    cases e
    cases hG
    exact ha List.mem_cons_self
 | x :: a,y :: b,F,G,ha,hb,hF,hG,e => by
  have e:x :: (a ++ F) = y :: (b ++ G):=e
  injection e with e1 e2
  obtain ⟨q1,q2⟩:=part_eq a b F G (fun m => ha (List.mem_cons_of_mem _ m)) (fun m => hb (List.mem_cons_of_mem _ m)) hF hG e2
  exact ⟨by rw [e1,q1],q2⟩
theorem fl_head (ws:List Str):fl ws = [] ∨ (fl ws).head? = some 32:=by
 cases ws with
 | nil => exact .inl rfl
 | cons w ws => exact .inr (by rw [fl_cons]; rfl)
theorem fl_inj:∀ (ws vs:List Str),(∀ w ∈ ws,32 ∉ tl w) → (∀ v ∈ vs,32 ∉ tl v) → fl ws = fl vs → ws = vs
 | [],[],_,_,_ => rfl
 | [],v :: vs,_,_,e => by rw [fl_cons] at e; cases e
 | w :: ws,[],_,_,e => by rw [fl_cons] at e; cases e
 | w :: ws,v :: vs,hw,hv,e => by
  rw [fl_cons,fl_cons] at e
  injection e with _ e
  obtain ⟨q1,q2⟩:=part_eq _ _ _ _ (hw w List.mem_cons_self) (hv v List.mem_cons_self) (fl_head ws) (fl_head vs) e
  rw [tl_inj q1,fl_inj ws vs (fun x hx => hw x (List.mem_cons_of_mem _ hx)) (fun x hx => hv x (List.mem_cons_of_mem _ hx)) q2]
theorem join_is (sep:Str) (ws:List Str):Txt.join sep ws = Str.join sep ws:=StrLaws.glued_eq_join sep ws
theorem split_spec (t:Str):∃ p ps,Txt.split t " " = p :: ps ∧ tl t = tl p ++ fl ps ∧ ∀ w ∈ p :: ps,32 ∉ tl w:=by
 cases e:Txt.split t " " with
 | nil => exact absurd e (split_ne t " ")
 | cons p ps =>
  refine ⟨p,ps,rfl,?_,?_⟩
  ·have:=StrLaws.join_split t " "
   rw [e,← join_is] at this
   rw [← tl_joined,this]
  ·have:=StrLaws.split_free t 32
   rw [← sp_is,e] at this
   exact this
theorem split_joined (w:Str) (ws:List Str) (h:∀ x ∈ w :: ws,32 ∉ tl x):Txt.split (Txt.join " " (w :: ws)) " " = w :: ws:=by
 obtain ⟨p,ps,e,e2,hf⟩:=split_spec (Txt.join " " (w :: ws))
 rw [tl_joined] at e2
 obtain ⟨q1,q2⟩:=part_eq _ _ _ _ (h w List.mem_cons_self) (hf p List.mem_cons_self) (fl_head ws) (fl_head ps) e2
 rw [e,tl_inj q1,fl_inj ws ps (fun x hx => h x (List.mem_cons_of_mem _ hx)) (fun x hx => hf x (List.mem_cons_of_mem _ hx)) q2]
end Fw.U
namespace Fw.U
open PySem Fw Fw.H Fw.E
noncomputable def fs (sep:Str) (ws:List Str):List Nat:=ws.flatMap fun x => tl sep ++ tl x
theorem fs_cons (sep w:Str) (ws:List Str):fs sep (w :: ws) = tl sep ++ (tl w ++ fs sep ws):=by simp [fs]
theorem tl_joinS (sep w:Str) (ws:List Str):tl (Txt.join sep (w :: ws)) = tl w ++ fs sep ws:=tl_join sep ws w
theorem split_specS (t sep:Str):∃ p ps,Txt.split t sep = p :: ps ∧ tl t = tl p ++ fs sep ps:=by
 cases e:Txt.split t sep with
 | nil => exact absurd e (split_ne t sep)
 | cons p ps =>
  refine ⟨p,ps,rfl,?_⟩
  have:=StrLaws.join_split t sep
  rw [e,← join_is] at this
  rw [← tl_joinS,this]
theorem fs_len {sep:Str} (h:1 ≤ sep.length):∀ (ws:List Str),ws.length ≤ (fs sep ws).length
 | [] => Nat.le_refl _
 | w :: ws => by
  rw [fs_cons]
  have:=fs_len h ws
  rw [tl_len] at h
  simp only [List.length_cons,List.length_append]
  lia
theorem fs_mem {sep:Str} {ws:List Str} {w:Str} (h:w ∈ ws):∀ c ∈ tl w,c ∈ fs sep ws:=fun c hc => List.mem_flatMap.mpr ⟨w,h,List.mem_append_right _ hc⟩
theorem fs_wlen {sep:Str}:∀ {ws:List Str} {w:Str},w ∈ ws → (tl w).length ≤ (fs sep ws).length
 | v :: ws,w,h => by
  rw [fs_cons]
  simp only [List.length_append]
  rcases List.mem_cons.mp h with rfl | h
  ·lia
  ·have:=fs_wlen (sep:=sep) h
   lia
theorem split_lenS {sep:Str} (h:1 ≤ sep.length) (t:Str):(Txt.split t sep).length ≤ t.length + 1:=by
 obtain ⟨p,ps,e,e2⟩:=split_specS t sep
 rw [e,tl_len,e2]
 have:=fs_len h ps
 simp only [List.length_cons,List.length_append]
 lia
theorem split_wordS {t sep w:Str} (h:w ∈ Txt.split t sep):w.length ≤ t.length ∧ ∀ c ∈ tl w,c ∈ tl t:=by
 obtain ⟨p,ps,e,e2⟩:=split_specS t sep
 rw [e] at h
 rw [tl_len,tl_len,e2]
 rcases List.mem_cons.mp h with rfl | h
 ·exact ⟨by rw [List.length_append]; lia,fun c hc => List.mem_append_left _ hc⟩
 ·exact ⟨by rw [List.length_append]; have:=fs_wlen (sep:=sep) h; lia,fun c hc => List.mem_append_right _ (fs_mem h c hc)⟩
noncomputable def sc:Str:="; "
theorem tl_sc:tl sc = [59,32]:=by decide +kernel
theorem sc_len:sc.length = 2:=by decide +kernel
theorem at_sc {x:Str} {k:Nat} (h:StrLaws.At x sc x.length k):(tl x)[k]? = some 59:=by
 have h2:=h.2
 rw [StrLaws.subAt_eq] at h2
 have h3:((tl x).drop k).take sc.length = tl sc:=by simpa using h2
 rw [sc_len,tl_sc] at h3
 have this:(((tl x).drop k).take 2)[0]? = ([59,32]:List Nat)[0]?:=by rw [h3]
 rw [List.getElem?_take_of_lt (by lia),List.getElem?_drop] at this
 simpa using this
theorem at_sc_of {x:Str} {k:Nat} {r:List Nat} (h:(tl x).drop k = 59 :: 32 :: r):StrLaws.At x sc x.length k:=by
 have hl:=congrArg List.length h
 rw [List.length_drop] at hl
 simp only [List.length_cons] at hl
 refine ⟨by rw [sc_len,tl_len]; lia,?_⟩
 rw [StrLaws.subAt_eq]
 have e:x.cps.toList.drop k = 59 :: 32 :: r:=h
 rw [e,sc_len]
 show (([59,32]:List Nat) == tl sc) = true
 rw [tl_sc]; rfl
theorem sub_of {x:Str} {a b:Nat} {w:Str} {r:List Nat} (h:(tl x).drop a = tl w ++ r) (hb:b = a + w.length):Builtin.Str.strSub x a b = w:=by
 apply tl_inj
 show (Builtin.Str.strSub x a b).cps.toList = _
 rw [StrLaws.strSub_toList]
 have e:x.cps.toList.drop a = tl w ++ r:=h
 rw [e,hb,Nat.add_sub_cancel_left,tl_len,List.take_left]
theorem parts_sc (x:Str):∀ (ws:List Str) (w:Str) (cuts:List Nat) (a f:Nat),(∀ v ∈ w :: ws,59 ∉ tl v) → (tl x).drop a = tl w ++ fs sc ws → StrLaws.ChainG x sc x.length a cuts f → (∀ k,f ≤ k → ¬ StrLaws.At x sc x.length k) → StrLaws.partsFrom x sc.length a cuts = w :: ws
 | [],w,cuts,a,f,hw,hd,hG,hn => by
  have none:∀ k,a ≤ k → ¬ StrLaws.At x sc x.length k:=fun k hk hA => by
   have:=at_sc hA
   have e:((tl x).drop a)[k - a]? = some 59:=by rw [List.getElem?_drop,show a + (k - a) = k by lia]; exact this
   rw [hd] at e
   have:=List.mem_of_getElem? e
   rw [show fs sc [] = [] from rfl,List.append_nil] at this
   exact hw w List.mem_cons_self this
  cases cuts with
  | nil =>
   show [Builtin.Str.strSub x a x.length] = [w]
   have hl:=congrArg List.length hd
   rw [List.length_drop,show fs sc [] = [] from rfl,List.append_nil,← tl_len,← tl_len] at hl
   by_cases z:a ≤ x.length
   ·rw [sub_of hd (by lia)]
   ·have:w = "":=by
     apply tl_inj
     apply List.eq_nil_of_length_eq_zero
     rw [← tl_len]; lia
    subst this
    congr 1
    apply tl_inj
    show (Builtin.Str.strSub x a x.length).cps.toList = _
    rw [StrLaws.strSub_toList,show x.length - a = 0 by lia]
    rfl
  | cons c r => exact absurd hG.2.1 (none c hG.1)
 | v :: vs,w,cuts,a,f,hw,hd,hG,hn => by
  rw [fs_cons,tl_sc] at hd
  have hA:StrLaws.At x sc x.length (a + w.length):=at_sc_of (r:=tl v ++ fs sc vs) (by
   rw [← List.drop_drop,hd,tl_len,List.drop_left]; rfl)
  have before:∀ k,a ≤ k → k < a + w.length → ¬ StrLaws.At x sc x.length k:=fun k h1 h2 hA => by
   have:=at_sc hA
   have e:((tl x).drop a)[k - a]? = some 59:=by rw [List.getElem?_drop,show a + (k - a) = k by lia]; exact this
   rw [hd,List.getElem?_append_left (by rw [← tl_len]; lia)] at e
   exact hw w List.mem_cons_self (List.mem_of_getElem? e)
  cases cuts with
  | nil =>
   have e:f = a:=hG
   subst e
   exact absurd hA (hn _ (by lia))
  | cons c r =>
   have hc:c = a + w.length:=by
    rcases Nat.lt_trichotomy c (a + w.length) with q | q | q
    ·exact absurd hG.2.1 (before c hG.1 q)
    ·exact q
    ·exact absurd hA (hG.2.2.1 _ (by lia) q)
   show Builtin.Str.strSub x a c :: StrLaws.partsFrom x sc.length (c + sc.length) r = _
   rw [sub_of hd hc,parts_sc x vs v r (c + sc.length) f (fun y hy => hw y (List.mem_cons_of_mem _ hy)) (by
    rw [hc,sc_len,← List.drop_drop,← List.drop_drop,hd,tl_len,List.drop_left]; rfl) hG.2.2.2 hn]
theorem split_sc {t:Str} {w:Str} {ws:List Str} (hw:∀ v ∈ w :: ws,59 ∉ tl v) (h:tl t = tl w ++ fs sc ws):Txt.split t sc = w :: ws:=by
 obtain ⟨f,hG,hn⟩:=StrLaws.occ_tight t sc (by rw [sc_len]; lia)
 have key:=parts_sc t ws w _ 0 f hw (by rw [List.drop_zero]; exact h) hG hn
 unfold Txt.split
 split
 ·rename_i hc
  rw [Bool.or_eq_true,decide_eq_true_eq,decide_eq_true_eq] at hc
  rcases hc with hc | hc
  ·rw [sc_len] at hc
   cases ws with
   | nil =>
    rw [show fs sc [] = [] from rfl,List.append_nil] at h
    rw [tl_inj h]
   | cons v vs =>
    rw [fs_cons,tl_sc] at h
    have:=congrArg List.length h
    rw [← tl_len] at this
    simp at this
    lia
  ·exfalso
   have:Builtin.Str.strKind sc = Builtin.Str.strKind "a":=by decide +kernel
   rw [this] at hc
   unfold Builtin.Str.strKind at hc
   have e:("a":Str).cps.all (· < 256) = true:=by decide +kernel
   rw [if_pos e] at hc
   revert hc
   split
   ·simp
   ·split <;> simp
 ·split
  ·rename_i he
   have e0:Builtin.Str.occurrences t sc 0 t.length (t.length + 1) = []:=List.isEmpty_iff.mp he
   rw [e0] at key
   rw [← key]
   show [t] = [Builtin.Str.strSub t 0 t.length]
   rw [StrLaws.sub_whole]
  ·rw [StrLaws.partsBetween_eq]
   exact key
theorem small_strH:∀ k ∈ List.range 100,num (Str.ofString (toString (k:Int))) = true ∧ val (Str.ofString (toString (k:Int))) = k ∧ (Str.ofString (toString (k:Int))).length ≤ 2:=by decide +kernel
theorem num_strH {w:Str} (h:num w = true) (hv:val w < 100):w = Str.ofString (toString (val w:Int)):=by
 obtain ⟨h1,h2,h3,h4⟩:=num_parts h
 have hd:=dgs_all h4
 have hw:w = ⟨w.cps.toList.toArray⟩:=by cases w; simp
 unfold val NumText.digitsVal at hv ⊢
 cases e:w.cps.toList with
 | nil => exact absurd e h1
 | cons c cs =>
  rw [e] at hd hv h3 hw
  obtain ⟨b1,b2⟩:=hd c List.mem_cons_self
  obtain ⟨c',rfl⟩:∃ c',c = 48 + c':=⟨c - 48,by lia⟩
  cases cs with
  | nil =>
   rw [hw]
   simp only [List.foldl_cons,List.foldl_nil]
   have:=one_digit c' (List.mem_range.mpr (by lia))
   rw [show 0 * 10 + (48 + c' - 48) = c' by lia]
   exact this
  | cons d cs =>
   obtain ⟨b3,b4⟩:=hd d (List.mem_cons_of_mem _ List.mem_cons_self)
   obtain ⟨d',rfl⟩:∃ d',d = 48 + d':=⟨d - 48,by lia⟩
   have hc:c' ≠ 0:=fun z => by
    subst z
    have:=h3 rfl
    rw [this] at e
    have e:[48] = (48 + 0) :: (48 + d') :: cs:=e
    cases e
   cases cs with
   | nil =>
    rw [hw]
    simp only [List.foldl_cons,List.foldl_nil]
    have:=two_digits c' (List.mem_range.mpr (by lia)) d' (List.mem_range.mpr (by lia)) hc
    rw [show (0 * 10 + (48 + c' - 48)) * 10 + (48 + d' - 48) = 10 * c' + d' by lia]
    exact this
   | cons f cs =>
    exfalso
    simp only [List.foldl_cons] at hv
    have:=fold_ge cs (((0 * 10 + (48 + c' - 48)) * 10 + (48 + d' - 48)) * 10 + (f - 48))
    lia
theorem mem_strsH (w:Str):w ∈ nstrs 100 ↔ num w = true ∧ val w < 100:=by
 constructor
 ·intro h
  obtain ⟨k,hk,rfl⟩:=List.mem_map.mp h
  have hk:=List.mem_range.mp hk
  obtain ⟨a,b,_⟩:=small_strH k (List.mem_range.mpr (by lia))
  exact ⟨a,by rw [b]; exact hk⟩
 ·rintro ⟨a,b⟩
  exact List.mem_map.mpr ⟨val w,List.mem_range.mpr b,(num_strH a (by lia)).symm⟩
end Fw.U
namespace Fw.F
open PySem Fw Fw.H Fw.E
end Fw.F
namespace Fw.F
open PySem Fw Fw.H Fw.E
structure Sq (μ:Store) (x:SV) (xs:List Int):Prop where
 len:lenS μ x = some (.int xs.length)
 at_:∀ k:Int,0 ≤ k → k < xs.length → idxS μ x (.int k) = some (.val (.int (g xs k.toNat)))
 it:(rd μ x).bind seqItems = some (xs.map T.int)
theorem sq_cel {μ:Store} {k:Nat} {xs:List Int} (h:rd μ (.cel k) = some (li xs)):Sq μ (.cel k) xs :=
 ⟨by rw [lenS_of h]; simp,fun k h0 h1 => by rw [idxS_of h,atg h0 h1]; rfl,by rw [h]; rfl⟩
end Fw.F
namespace Fw.F
open PySem Fw Fw.H Fw.E
theorem toNat_mod (a b:Int) (h:0 < b):∃ n:Nat,a % b = (n:Int) ∧ (n:Int) < b:=⟨(a % b).toNat,by have:=Int.emod_nonneg a (show b ≠ 0 by lia); lia,by have:=Int.emod_nonneg a (show b ≠ 0 by lia); have:=Int.emod_lt_of_pos a h; lia⟩
end Fw.F
namespace Fw.J
open PySem Fw Fw.H Fw.E Fw.F
end Fw.J
namespace Fw.J
open PySem Fw Fw.H Fw.E Fw.F
end Fw.J
namespace Fw.K
open PySem Fw Fw.H Fw.E Fw.F Fw.J
noncomputable def b_cell:DS :=
 (sSeq (sIf (dBin fLt (dVar 1) (dLen (dVar 0))) (sRet (dIdx (dVar 0) (dVar 1))) sNil)
 (sSeq (sSet 2 (dBin fAdd (dBin fMulA (dVar 1) (dC (.int 48271))) (dC (.int 977))))
 (sSeq (sIf (dBin fGt (dLen (dVar 0)) (dC (.int 0))) (sSet 2 (dBin fAdd (dVar 2) (dBin fMulA (dBin fMod (dIdx (dVar 0) (dBin fMod (dBin fMulA (dVar 1) (dC (.int 3))) (dLen (dVar 0)))) (dC (.int 2147483647))) (dC (.int 40692))))) sNil)
 (sRet (dBin fMod (dBin fMulA (dBin fMod (dBin fMulA (dVar 2) (dVar 2)) (dC (.int 2147483629))) (dC (.int 69621))) (dC (.int 2147483587)))))))
noncomputable def fV_cell:FN:=fnV 3 b_cell
theorem mulP {p a b:Int} (hp:p ≤ 97) (h:0 ≤ a ∧ a < p):fMulA (.int a) (.int b) = some (.int (a * b)):=fMulA_l _ _ (by omega) (by omega)
theorem cell_bnd {k:Int} (h0:0 ≤ k) (h1:k ≤ 1000) (a:Int):-18446744073709551616 < k * 48271 + 977 + a % 2147483647 * 40692 ∧ k * 48271 + 977 + a % 2147483647 * 40692 < 18446744073709551616:=by omega
theorem cell_bnd0 {k:Int} (h0:0 ≤ k) (h1:k ≤ 1000):-18446744073709551616 < k * 48271 + 977 ∧ k * 48271 + 977 < 18446744073709551616:=by omega
noncomputable def cellE:DS:=(sRet (dBin fMod (dBin fMulA (dBin fMod (dBin fMulA (dVar 2) (dVar 2)) (dC (.int 2147483629))) (dC (.int 69621))) (dC (.int 2147483587))))
theorem cellE_ok (ns:T) (k y:Int) (h:-18446744073709551616 < y ∧ y < 18446744073709551616) (μ:Store):cellE [some (.val ns),some (.val (.int k)),some (.val (.int y))] μ = .rt (.val (.int (y * y % 2147483629 * 69621 % 2147483587))) μ:=by
 unfold cellE
 have hyy:fMulA (.int y) (.int y) = some (.int (y * y)):=fMulA_r _ _ h.1 h.2
 have m4:∀ a,fMulA (.int a) (.int 69621) = some (.int (a * 69621)):=fun a => fMulA_r _ _ (by decide) (by decide)
 simp (disch:=first | decide | omega | assumption) only [stw,stc,Nat.reduceAdd,Nat.reduceSub,hyy,m4]
theorem b_cell_is:b_cell = (sSeq (sIf (dBin fLt (dVar 1) (dLen (dVar 0))) (sRet (dIdx (dVar 0) (dVar 1))) sNil)
 (sSeq (sSet 2 (dBin fAdd (dBin fMulA (dVar 1) (dC (.int 48271))) (dC (.int 977))))
 (sSeq (sIf (dBin fGt (dLen (dVar 0)) (dC (.int 0))) (sSet 2 (dBin fAdd (dVar 2) (dBin fMulA (dBin fMod (dIdx (dVar 0) (dBin fMod (dBin fMulA (dVar 1) (dC (.int 3))) (dLen (dVar 0)))) (dC (.int 2147483647))) (dC (.int 40692))))) sNil)
 cellE))):=rfl
theorem cell_ok (ns:List Int) (k:Int) (h0:0 ≤ k) (h1:k ≤ 1000):∃ c,∀ μ,fV_cell [.val (.lst (ns.map T.int)),.val (.int k)] μ = .ok (.val (.int c)) μ:=by
 unfold fV_cell
 rw [b_cell_is]
 have m1:fMulA (.int k) (.int 48271) = some (.int (k * 48271)):=fMulA_r _ _ (by decide) (by decide)
 by_cases h:k < ns.length
 ·have hl:decide (k < (ns.length:Int)) = true:=decide_eq_true h
  exact ⟨_,fun μ => by simp (disch:=first | decide | omega | assumption) only [stw,stc,Nat.reduceAdd,Nat.reduceSub,List.length_map,hl,atI_map h0 h]; rfl⟩
 ·have hl:decide (k < (ns.length:Int)) = false:=decide_eq_false h
  by_cases h2:0 < ns.length
  ·have hp:(0:Int) < ns.length:=Int.ofNat_lt.mpr h2
   have p1:k * 3 % (ns.length:Int) < ns.length:=Int.emod_lt_of_pos _ hp
   have n0:decide ((ns.length:Int) > 0) = true:=decide_eq_true hp
   have n0':decide (0 < (ns.length:Int)) = true:=decide_eq_true hp
   obtain ⟨a,ht⟩:∃ a,atI (ns.map T.int) (k * 3 % (ns.length:Int)) = some (.int a):=⟨_,atI_map (xs:=ns) (f:=T.int) (Int.emod_nonneg _ (Int.ne_of_gt hp)) p1⟩
   have m3:fMulA (.int k) (.int 3) = some (.int (k * 3)):=fMulA_r _ _ (by decide) (by decide)
   have hmm:fMod (.int (k * 3)) (.int (ns.length:Int)) = some (.int (k * 3 % (ns.length:Int))):=fMod_int _ _ hp
   have hma:fMulA (.int (a % 2147483647)) (.int 40692) = some (.int (a % 2147483647 * 40692)):=fMulA_r _ _ (by decide) (by decide)
   exact ⟨_,fun μ => by simp (disch:=first | decide | omega | assumption) only [stw,stc,Nat.reduceAdd,Nat.reduceSub,List.length_map,hl,m1,m3,n0,n0',hmm,ht,hma,cellE_ok _ _ _ (cell_bnd h0 h1 a)]; rfl⟩
  ·have hp:¬ (0:Int) < ns.length:=fun h => h2 (Int.ofNat_lt.mp h)
   have n0:decide ((ns.length:Int) > 0) = false:=decide_eq_false hp
   have n0':decide (0 < (ns.length:Int)) = false:=decide_eq_false hp
   exact ⟨_,fun μ => by simp (disch:=first | decide | omega | assumption) only [stw,stc,Nat.reduceAdd,Nat.reduceSub,List.length_map,hl,m1,n0,n0',cellE_ok _ _ _ (cell_bnd0 h0 h1)]; rfl⟩
noncomputable def b_mixed:DS :=
 (sSeq (sSet 2 (dBin fMod (dBin fMulA (dBin fAdd (dBin fMod (dVar 0) (dC (.int 2147483647))) (dC (.int 1))) (dBin fAdd (dC (.int 48271)) (dBin fMulA (dVar 1) (dVar 1)))) (dC (.int 2147483629))))
 (sRet (dBin fMod (dBin fMulA (dBin fMod (dBin fMulA (dVar 2) (dBin fAdd (dVar 2) (dBin fMulA (dC (.int 977)) (dVar 1)))) (dC (.int 2147483587))) (dC (.int 40692))) (dC (.int 2147483399)))))
noncomputable def fV_mixed:FN:=fnV 3 b_mixed
theorem mixed_ok (c k:Int) (h0:0 ≤ k) (h1:k ≤ 1000):∃ d,∀ μ,fV_mixed [.val (.int c),.val (.int k)] μ = .ok (.val (.int d)) μ:=by
 unfold fV_mixed b_mixed
 have m1:fMulA (.int k) (.int k) = some (.int (k * k)):=fMulA_r _ _ (by omega) (by omega)
 have m2:∀ b,fMulA (.int (c % 2147483647 + 1)) (.int b) = some (.int ((c % 2147483647 + 1) * b)):=fun b => fMulA_l _ _ (by omega) (by omega)
 have m3:fMulA (.int 977) (.int k) = some (.int (977 * k)):=fMulA_l _ _ (by decide) (by decide)
 have m4:∀ a b,fMulA (.int (a % 2147483629)) (.int b) = some (.int (a % 2147483629 * b)):=fun a b => fMulA_l _ _ (by omega) (by omega)
 have m5:∀ a,fMulA (.int (a % 2147483587)) (.int 40692) = some (.int (a % 2147483587 * 40692)):=fun a => fMulA_r _ _ (by decide) (by decide)
 exact ⟨_,fun μ => by simp (disch:=first | decide | omega | assumption) only [stw,stc,Nat.reduceAdd,Nat.reduceSub,m1,m2,m3,m4,m5]; rfl⟩
noncomputable def numbersB:DS:=(sIf (dVar 3) (sSeq (sAppend (dVar 4) (dBin fMod (dVar 0) (dVar 1)))
 (sSet 0 (dBin fDiv (dVar 0) (dVar 1)))) (sAppend (dVar 4) (dBin fMod (dBin fDiv (dCall (cal fV_mixed) [(dVar 0),(dVar 5)]) (dC (.int 7))) (dVar 1))))
noncomputable def b_numbers:DS :=
 (sSeq (sSet 4 (dCell (dLst [])))
 (sSeq (sFor (iRange1 (dVar 2)) (bName 5) numbersB)
 (sRet (dVar 4))))
theorem numbers_rt (c base:Int) (n:Nat) (bd:Bool) (hm:0 < base) (hm2:base < 1000000) (hn:n ≤ 1000) (μ:Store) :
  ∃ r,b_numbers (starts 6 [.val (.int c),.val (.int base),.val (.int n),.val (.bl bd)]) μ = .rt (.cel μ.length) (μ ++ [(true,li r)]) ∧ Rw base n r:=by
 have rn:rngOk (n:Int) = true:=rngOk_of (by omega) (by omega)
 obtain ⟨e',μ',h1,x0,x5,r,rfl,rfl,hR⟩:=forL_nx (same:=fun _ => True) (b:=bName 5) (ts:=intsT 0 (n:Int).toNat) (body:=numbersB)
  (I:=fun i e μ1 => ∃ x0 x5 r,e = [some (.val (.int x0)),some (.val (.int base)),some (.val (.int n)),some (.val (.bl bd)),some (.cel μ.length),x5] ∧ μ1 = μ ++ [(true,li r)] ∧ Rw base i r)
  (fun _ _ _ _ => trivial) (fun i t e μ1 ht hX11_ => by
   obtain ⟨x0,x5,r,he,hμ,hR⟩:=hX11_
   subst he hμ
   obtain ⟨k,rfl,hi,hk⟩:=intsT_k ht
   have hi:i < n:=by simpa using hi
   have hl:(r.map T.int).length < szL:=by have:=hR.1; unfold szL; simp; omega
   generalize hq:(true,li r) = q
   have hls:lsts (.cel μ.length) (μ ++ [q]) = some ():=by rw [← hq]; exact lsts_st0 _ _ _ _
   have hap:∀ t,appendAt (.cel μ.length) t (μ ++ [q]) = some (μ ++ [(true,T.lst (r.map T.int ++ [t]))]):=fun t => by rw [← hq]; exact append_st0 _ _ _ _ hl
   have hmod:∀ a:Int,fMod (.int a) (.int base) = some (.int (a % base)):=fun a => fMod_int _ _ (by omega)
   have hdiv:∀ a:Int,fDiv (.int a) (.int base) = some (.int (a / base)):=fun a => fDiv_int _ _ (by omega) (by omega)
   cases bd with
   | true =>
    refine ⟨_,_,_,rfl,?_,x0 / base,some (.val (.int k)),r ++ [x0 % base],rfl,rfl,E.Rw.snoc hR (Int.emod_nonneg _ (by omega)) (Int.emod_lt_of_pos _ hm)⟩
    unfold numbersB
    simp (disch:=first | decide | omega | assumption) only [stw,stc,Nat.reduceAdd,Nat.reduceSub,hls,hap,hmod,hdiv]
    simp
   | false =>
    obtain ⟨d,hd⟩:=mixed_ok x0 k (by omega) (by omega)
    refine ⟨_,_,_,rfl,?_,x0,some (.val (.int k)),r ++ [d / 7 % base],rfl,rfl,E.Rw.snoc hR (Int.emod_nonneg _ (by omega)) (Int.emod_lt_of_pos _ hm)⟩
    unfold numbersB
    simp (disch:=first | decide | omega | assumption) only [stw,stc,Nat.reduceAdd,Nat.reduceSub,hd,hls,hap,hmod]
    simp)
  (e:=[some (.val (.int c)),some (.val (.int base)),some (.val (.int n)),some (.val (.bl bd)),some (.cel μ.length),none]) (μ:=μ ++ [(true,li [])]) ⟨c,none,[],rfl,rfl,rfl,by simp,by simp⟩
 rw [intsT_len,Int.toNat_natCast] at hR
 refine ⟨r,?_,hR⟩
 unfold b_numbers
 simp (disch:=first | decide | omega | assumption) only [stw,stc,Nat.reduceAdd,Nat.reduceSub,rn]
 rw [show (true,T.lst []) = (true,li []) from rfl,h1]
 simp (disch:=first | decide | omega | assumption) only [stw,stc,Nat.reduceAdd,Nat.reduceSub]
theorem numbersD (c base:Int) (n:Nat) (bd:Bool) (hm:0 < base) (hm2:base < 1000000) (hn:n ≤ 1000) (μ:Store) :
  ∃ r,fnD 6 b_numbers [.val (.int c),.val (.int base),.val (.int n),.val (.bl bd)] μ = .ok (.cel μ.length) (μ ++ [(true,li r)]) ∧ Rw base n r:=by
 obtain ⟨r,h,hR⟩:=numbers_rt c base n bd hm hm2 hn μ
 exact ⟨r,by rw [fnD_is,h,endD_rt,gc_new],hR⟩
noncomputable def fD_numbers:FN:=fnD 6 b_numbers
noncomputable def powB:DS:=(sWhile (dBin fLt (dLen (dVar 10)) (dVar 5)) (sAppend (dVar 10) (dBin fMod (dBin fMulA (dIdx (dVar 10) (dUn fNeg (dC (.int 1)))) (dVar 11)) (dVar 2))))
noncomputable def tableB:DS:=(sSeq (sSet 3 (dCall (cal fV_cell) [(dVar 0),(dBin fAdd (dBin fAdd (dVar 1) (dC (.int 1))) (dVar 9))]))
 (sSeq (sSet 10 (dCall (cal fD_numbers) [(dBin fDiv (dVar 3) (dC (.int 100))),(dVar 2),(dVar 5),(dVar 4)]))
 (sSeq (sIf (dBin fEq (dBin fMod (dBin fDiv (dVar 3) (dC (.int 10))) (dC (.int 5))) (dC (.int 1))) (sSeq (sSet 11 (dBin fMod (dBin fDiv (dVar 3) (dC (.int 100))) (dVar 2)))
 (sSeq (sSet 10 (dCell (dLst [(dC (.int 1))])))
 powB)) sNil)
 (sAppend (dVar 8) (dTup [(dBin fMod (dVar 3) (dVar 7)),(dUn fTuple (dVar 10))])))))
noncomputable def b_table:DS :=
 (sSeq (sSet 3 (dCall (cal fV_cell) [(dVar 0),(dVar 1)]))
 (sSeq (sSet 4 (dBin fEq (dBin fMod (dVar 3) (dC (.int 2))) (dC (.int 0))))
 (sSeq (sSet 5 (dBin fAdd (dC (.int 1)) (dBin fMod (dBin fDiv (dVar 3) (dC (.int 2))) (dC (.int 4)))))
 (sSeq (sSet 6 (dBin fMod (dBin fDiv (dVar 3) (dC (.int 8))) (dC (.int 7))))
 (sSeq (sSet 7 (dBin fAdd (dC (.int 1)) (dBin fMod (dBin fDiv (dVar 3) (dC (.int 56))) (dC (.int 5)))))
 (sSeq (sIf (dBin fEq (dBin fMod (dBin fDiv (dVar 3) (dC (.int 280))) (dC (.int 8))) (dC (.int 5))) (sSeq (sSet 5 (dBin fAdd (dVar 5) (dC (.int 2))))
 (sSet 6 (dBin fAdd (dVar 6) (dC (.int 5))))) sNil)
 (sSeq (sSet 8 (dCell (dLst [])))
 (sSeq (sFor (iRange1 (dVar 6)) (bName 9) tableB)
 (sRet (dTup [(dVar 2),(dVar 5),(dUn fTuple (dVar 8))]))))))))))
theorem pow_ok {p x:Int} (hp:2 ≤ p ∧ p ≤ 97) (hx:0 ≤ x ∧ x < p) (w:Nat) (hw:0 < w ∧ w ≤ 12) (a0 a1 a3 a4 a6 a7 a8 a9:Option SV) (k:Nat) (μ:Store) (h:μ[k]? = some (true,li [1])) :
  ∃ l,powB [a0,a1,some (.val (.int p)),a3,a4,some (.val (.int w)),a6,a7,a8,a9,some (.cel k),some (.val (.int x))] μ = .nx [a0,a1,some (.val (.int p)),a3,a4,some (.val (.int w)),a6,a7,a8,a9,some (.cel k),some (.val (.int x))] (μ.set k (true,li l)) ∧ Rw p w l:=by
 have hp0:0 < p:=by omega
 have hk:k < μ.length:=(List.getElem?_eq_some_iff.mp h).1
 have hmod:∀ a:Int,fMod (.int a) (.int p) = some (.int (a % p)):=fun a => fMod_int _ _ hp0
 refine sWhile_inv (P:=fun r => ∃ l,r = .nx [a0,a1,some (.val (.int p)),a3,a4,some (.val (.int w)),a6,a7,a8,a9,some (.cel k),some (.val (.int x))] (μ.set k (true,li l)) ∧ Rw p w l) (by rintro ⟨l,h,_⟩; cases h)
  (fun m e μ1 => ∃ (l:List Int) (i:Nat),e = [a0,a1,some (.val (.int p)),a3,a4,some (.val (.int w)),a6,a7,a8,a9,some (.cel k),some (.val (.int x))] ∧ μ1 = μ.set k (true,li l) ∧ Rw p i l ∧ 0 < i ∧ i ≤ w ∧ m = w - i) ?_ (w - 1) _ μ ⟨[1],1,rfl,?_,⟨rfl,by simp,by simp; omega⟩,by omega,by omega,rfl⟩
 ·rintro m e μ1 ⟨l,i,rfl,rfl,hR,hi0,hiw,rfl⟩
  have hg:(μ.set k (true,li l))[k]? = some (true,li l):=by simp [hk]
  have hlen:lenS (μ.set k (true,li l)) (.cel k) = some (.int i):=by
   have h3:rd (μ.set k (true,li l)) (.cel k) = some (li l):=by rw [rd_cel,hg]; rfl
   have:=(sq_cel h3).len
   rw [hR.1] at this; exact this
  refine ⟨decide ((i:Int) < w),μ.set k (true,li l),by simp (disch:=first | decide | omega | assumption) only [stw,stc,Nat.reduceAdd,Nat.reduceSub,hlen],?_⟩
  by_cases hlt:i < w
  ·rw [if_pos (decide_eq_true (by omega))]
   have hidx:idxS (μ.set k (true,li l)) (.cel k) (.int (-1)) = some (.val (.int (g l (i - 1)))):=by
    have h3:rd (μ.set k (true,li l)) (.cel k) = some (li l):=by rw [rd_cel,hg]; rfl
    rw [idxS_of h3]
    show (atI (l.map T.int) (-1)).map SV.val = _
    have hl:=hR.1
    have e1:ixN (l.map T.int).length (-1) = some (i - 1):=by
     unfold ixN
     rw [List.length_map,hl,if_neg (by omega),if_pos (by omega)]
     congr 1
     omega
    unfold atI
    rw [e1,Option.bind_some,List.getElem?_map,List.getElem?_eq_getElem (by omega),g_at _ _ (by omega)]
    rfl
   have b1:=hR.g0 hp0 (i - 1)
   have hmu:fMulA (.int (g l (i - 1))) (.int x) = some (.int (g l (i - 1) * x)):=mulP hp.2 b1
   have hls:lsts (.cel k) (μ.set k (true,li l)) = some ():=lsts_at hg
   have hap:appendAt (.cel k) (.int (g l (i - 1) * x % p)) (μ.set k (true,li l)) = some (μ.set k (true,li (l ++ [g l (i - 1) * x % p]))):=by
    rw [append_at hg (by rw [List.length_map,hR.1]; unfold szL; omega),List.set_set]
    simp [li]
   have eb:(sAppend (dVar 10) (dBin fMod (dBin fMulA (dIdx (dVar 10) (dUn fNeg (dC (.int 1)))) (dVar 11)) (dVar 2))) [a0,a1,some (.val (.int p)),a3,a4,some (.val (.int w)),a6,a7,a8,a9,some (.cel k),some (.val (.int x))] (μ.set k (true,li l)) = .nx [a0,a1,some (.val (.int p)),a3,a4,some (.val (.int w)),a6,a7,a8,a9,some (.cel k),some (.val (.int x))] (μ.set k (true,li (l ++ [g l (i - 1) * x % p]))):=by
    simp (disch:=first | decide | omega | assumption) only [stw,stc,Nat.reduceAdd,Nat.reduceSub,hls,hidx,hmu,hmod,hap]
   rw [eb,goes_nx]
   exact ⟨w - (i + 1),Nat.sub_lt_sub_left hlt (Nat.lt_succ_self i),_,i + 1,rfl,rfl,E.Rw.snoc hR (Int.emod_nonneg _ (Int.ne_of_gt hp0)) (Int.emod_lt_of_pos _ hp0),Nat.succ_pos i,hlt,rfl⟩
  ·rw [if_neg (by simp; omega)]
   have:i = w:=by omega
   subst this
   exact ⟨l,rfl,hR⟩
 ·exact (List.ext_getElem? fun j => by
   by_cases e:k = j
   ·subst e; rw [List.getElem?_set_self hk,h]
   ·rw [List.getElem?_set_ne e])
end Fw.K
namespace Fw.K
open PySem Fw Fw.H Fw.E Fw.F Fw.J
theorem set_keep {α:Type} (M ex:List α) (j:Nat) (v:α) (h:j < M.length):((M ++ ex).set j v)[j]? = some v ∧ ((M ++ ex).set j v).take j = M.take j:=by
 refine ⟨?_,?_⟩
 ·rw [List.getElem?_set_self (by rw [List.length_append]; omega)]
 ·rw [List.take_set_of_le (Nat.le_refl j),List.take_append_of_le_length (Nat.le_of_lt h)]
theorem hand_lt {d mn:Int} (h:0 < mn ∧ mn ≤ 5):0 ≤ d % mn ∧ d % mn < 5 :=
 ⟨Int.emod_nonneg d (by omega),Int.lt_of_lt_of_le (Int.emod_lt_of_pos d h.1) h.2⟩
noncomputable def appB:DS:=(sAppend (dVar 8) (dTup [(dBin fMod (dVar 3) (dVar 7)),(dUn fTuple (dVar 10))]))
theorem tableB_eq:tableB = (sSeq (sSet 3 (dCall (cal fV_cell) [(dVar 0),(dBin fAdd (dBin fAdd (dVar 1) (dC (.int 1))) (dVar 9))]))
 (sSeq (sSet 10 (dCall (cal fD_numbers) [(dBin fDiv (dVar 3) (dC (.int 100))),(dVar 2),(dVar 5),(dVar 4)]))
 (sSeq (sIf (dBin fEq (dBin fMod (dBin fDiv (dVar 3) (dC (.int 10))) (dC (.int 5))) (dC (.int 1))) (sSeq (sSet 11 (dBin fMod (dBin fDiv (dVar 3) (dC (.int 100))) (dVar 2)))
 (sSeq (sSet 10 (dCell (dLst [(dC (.int 1))])))
 powB)) sNil)
 appB))):=rfl
theorem step_ok (ns:List Int) {p mn at_ k:Int} {w j:Nat} (hb:2 ≤ p ∧ p ≤ 97) (hp0:0 < p) (hpz:p ≠ 0) (hp1:p < 1000000) (hp3:p < 1073741824) (hw:0 < w ∧ w ≤ 12) (hw1:w ≤ 1000) (hmn:0 < mn ∧ mn ≤ 5) (hm3:mn < 1073741824) (bd:Bool) (h0:0 ≤ at_ + 1 + k) (h1:at_ + 1 + k ≤ 1000) (ts:List T) (hts:ts.length < szL) (M:Store) (hM:M[j]? = some (true,.lst ts)) (x3 x6 x10 x11:Option SV) :
  ∃ (d:Int) (l:List Int) (c:Nat) (y:Option SV) (ex:Store),tableB [some (.val (.lst (ns.map T.int))),some (.val (.int at_)),some (.val (.int p)),x3,some (.val (.bl bd)),some (.val (.int w)),x6,some (.val (.int mn)),some (.cel j),some (.val (.int k)),x10,x11] M =
   .nx [some (.val (.lst (ns.map T.int))),some (.val (.int at_)),some (.val (.int p)),some (.val (.int d)),some (.val (.bl bd)),some (.val (.int w)),x6,some (.val (.int mn)),some (.cel j),some (.val (.int k)),some (.cel c),y] ((M ++ ex).set j (true,.lst (ts ++ [rt (d % mn,l)]))) ∧ Rw p w l:=by
 obtain ⟨d,hd⟩:=cell_ok ns (at_ + 1 + k) h0 h1
 obtain ⟨r,hr,hR⟩:=numbersD (d / 100) p w bd hp0 hp1 hw1 M
 have hr:fD_numbers [.val (.int (d / 100)),.val (.int p),.val (.int w),.val (.bl bd)] M = .ok (.cel M.length) (M ++ [(true,li r)]):=hr
 have hmod:∀ a:Int,fMod (.int a) (.int p) = some (.int (a % p)):=fun a => fMod_int _ _ hp0
 have hmodn:∀ a:Int,fMod (.int a) (.int mn) = some (.int (a % mn)):=fun a => fMod_int _ _ hmn.1
 have hj:j < M.length:=(List.getElem?_eq_some_iff.mp hM).1
 have key:∀ (ex:Store) (c:Nat) (l:List Int) (y:Option SV),(M ++ ex)[c]? = some (true,li l) →
   appB [some (.val (.lst (ns.map T.int))),some (.val (.int at_)),some (.val (.int p)),some (.val (.int d)),some (.val (.bl bd)),some (.val (.int w)),x6,some (.val (.int mn)),some (.cel j),some (.val (.int k)),some (.cel c),y] (M ++ ex) =
   .nx [some (.val (.lst (ns.map T.int))),some (.val (.int at_)),some (.val (.int p)),some (.val (.int d)),some (.val (.bl bd)),some (.val (.int w)),x6,some (.val (.int mn)),some (.cel j),some (.val (.int k)),some (.cel c),y] ((M ++ ex).set j (true,.lst (ts ++ [rt (d % mn,l)]))):=fun ex c l y hc => by
  unfold appB
  have g1:(M ++ ex)[j]? = some (true,T.lst ts):=by rw [List.getElem?_append_left hj]; exact hM
  have hls:lsts (.cel j) (M ++ ex) = some ():=lsts_at g1
  have hap:∀ t,appendAt (.cel j) t (M ++ ex) = some ((M ++ ex).set j (true,T.lst (ts ++ [t]))):=fun t => append_at g1 hts
  simp (disch:=first | decide | omega | assumption) only [stw,stc,Nat.reduceAdd,Nat.reduceSub,hls,hap,hmodn,hc]
  rfl
 cases hz:(d / 10 % 5 == 1) with
 | false =>
  refine ⟨d,r,M.length,x11,[(true,li r)],?_,hR⟩
  have k1:=key [(true,li r)] M.length r x11 (st_get0 ..)
  rw [tableB_eq]
  simp (disch:=first | decide | omega | assumption) only [stw,stc,Nat.reduceAdd,Nat.reduceSub,hd,hr,hz]
  exact k1
 | true =>
  have hN:(M ++ [(true,li r)] ++ [(true,li [1])])[(M ++ [(true,li r)]).length]? = some (true,li [1]):=st_get0 ..
  obtain ⟨l,hpw,hRl⟩:=pow_ok hb ⟨Int.emod_nonneg (d / 100) hpz,Int.emod_lt_of_pos (d / 100) hp0⟩ w hw (some (.val (.lst (ns.map T.int)))) (some (.val (.int at_))) (some (.val (.int d))) (some (.val (.bl bd))) x6 (some (.val (.int mn))) (some (.cel j)) (some (.val (.int k))) (M ++ [(true,li r)]).length (M ++ [(true,li r)] ++ [(true,li [1])]) hN
  have e1:(M ++ [(true,li r)] ++ [(true,li [1])]).set (M ++ [(true,li r)]).length (true,li l) = M ++ [(true,li r),(true,li l)]:=by rw [st_set0,List.append_assoc]; rfl
  rw [e1] at hpw
  have k1:=key [(true,li r),(true,li l)] (M ++ [(true,li r)]).length l (some (.val (.int (d / 100 % p)))) (by rw [show M ++ [(true,li r),(true,li l)] = (M ++ [(true,li r)]) ++ [(true,li l)] from (List.append_assoc M [_] [_]).symm]; exact st_get0 ..)
  have l1:T.lst [.int 1] = li [1]:=rfl
  generalize hNN:M ++ [(true,li r)] = Nn at *
  refine ⟨d,l,Nn.length,some (.val (.int (d / 100 % p))),[(true,li r),(true,li l)],?_,hRl⟩
  rw [tableB_eq]
  simp (disch:=first | decide | omega | assumption) only [stw,stc,Nat.reduceAdd,Nat.reduceSub,hd,hr,hz,hmod,l1,hpw]
  exact k1
theorem rows_snoc {p:Int} {w:Nat} {rows:Rows} {h:Int} {l:List Int} (h3:∀ q ∈ rows,Rw p w q.2) (h4:∀ q ∈ rows,0 ≤ q.1 ∧ q.1 < 5) (hl:Rw p w l) (hh:0 ≤ h ∧ h < 5):(∀ q ∈ rows ++ [(h,l)],Rw p w q.2) ∧ ∀ q ∈ rows ++ [(h,l)],0 ≤ q.1 ∧ q.1 < 5:=by
 constructor
 ·intro q hq
  rcases List.mem_append.mp hq with hq | hq
  ·exact h3 q hq
  ·cases List.mem_singleton.mp hq; exact hl
 ·intro q hq
  rcases List.mem_append.mp hq with hq | hq
  ·exact h4 q hq
  ·cases List.mem_singleton.mp hq; exact hh
theorem loop_ok (ns:List Int) {p mn at_:Int} {w m:Nat} (hP:IsPr p) (hw:0 < w ∧ w ≤ 6) (hmn:0 < mn ∧ mn ≤ 5) (hm:m ≤ 11) (ha:0 ≤ at_ ∧ at_ ≤ 500) (bd:Bool) (c:Int) (μ:Store):∃ (rows:Rows),((sSeq (sSet 8 (dCell (dLst [])))
 (sSeq (sFor (iRange1 (dVar 6)) (bName 9) tableB)
 (sRet (dTup [(dVar 2),(dVar 5),(dUn fTuple (dVar 8))]))):DS) [some (.val (.lst (ns.map T.int))),some (.val (.int at_)),some (.val (.int p)),some (.val (.int c)),some (.val (.bl bd)),some (.val (.int w)),some (.val (.int m)),some (.val (.int mn)),none,none,none,none] μ).endV μ.length = .ok (.val (tb p w rows)) μ ∧ Tbl p w rows ∧ rows.length ≤ 11 ∧ ∀ q ∈ rows,0 ≤ q.1 ∧ q.1 < 5:=by
 have hb:=hP.pos
 have hp0:0 < p:=Int.lt_of_lt_of_le (by decide) hb.1
 have rm:rngOk (m:Int) = true:=rngOk_of (by omega) (by omega)
 have hp0:0 < p:=by omega
 have hpz:p ≠ 0:=by omega
 have hp1:p < 1000000:=by omega
 have hp3:p < 1073741824:=by omega
 have hm3:mn < 1073741824:=by omega
 have hw12:0 < w ∧ w ≤ 12:=by omega
 have hw1:w ≤ 1000:=by omega
 have hsz:11 < szL:=by decide
 obtain ⟨e',μ',h1,rows,x3,x9,x10,x11,rfl,g1,g2,h2,h3,h4⟩:=forL_nx (same:=fun _ => True) (b:=bName 9) (ts:=intsT 0 (m:Int).toNat) (body:=tableB)
  (I:=fun i e μ1 => ∃ (rows:Rows),∃ x3 x9 x10 x11,e = [some (.val (.lst (ns.map T.int))),some (.val (.int at_)),some (.val (.int p)),x3,some (.val (.bl bd)),some (.val (.int w)),some (.val (.int m)),some (.val (.int mn)),some (.cel μ.length),x9,x10,x11] ∧ μ1[μ.length]? = some (true,.lst (rows.map rt)) ∧ μ1.take μ.length = μ ∧ rows.length = i ∧ (∀ q ∈ rows,Rw p w q.2) ∧ ∀ q ∈ rows,0 ≤ q.1 ∧ q.1 < 5)
  (fun _ _ _ _ => trivial) (fun i t e μ1 ht hI => by
   obtain ⟨rows,x3,x9,x10,x11,rfl,g1,g2,h2,h3,h4⟩:=hI
   obtain ⟨k,rfl,hi,hk⟩:=intsT_k ht
   have hi:i < m:=hi
   obtain ⟨d,l,cc,y,ex,hs,hR⟩:=step_ok (at_:=at_) (k:=k) ns hb hp0 hpz hp1 hp3 hw12 hw1 hmn hm3 bd (by omega) (by omega) (rows.map rt) (by rw [List.length_map,h2]; exact Nat.lt_of_le_of_lt (by omega) hsz) μ1 g1 x3 (some (.val (.int m))) x10 x11
   have hkp:=set_keep μ1 ex μ.length (true,T.lst (rows.map rt ++ [rt (d % mn,l)])) (List.getElem?_eq_some_iff.mp g1).1
   have hsn:=rows_snoc h3 h4 hR (hand_lt (d:=d) hmn)
   exact ⟨_,_,_,rfl,hs,rows ++ [(d % mn,l)],_,_,_,_,rfl,by rw [hkp.1,List.map_append]; rfl,hkp.2.trans g2,by rw [List.length_append,h2]; rfl,hsn.1,hsn.2⟩)
  (e:=[some (.val (.lst (ns.map T.int))),some (.val (.int at_)),some (.val (.int p)),some (.val (.int c)),some (.val (.bl bd)),some (.val (.int w)),some (.val (.int m)),some (.val (.int mn)),some (.cel μ.length),none,none,none]) (μ:=μ ++ [(true,.lst [])]) ⟨[],_,none,none,none,rfl,st_get0 ..,st_take ..,rfl,by simp,by simp⟩
 rw [intsT_len,Int.toNat_natCast] at h2
 refine ⟨rows,?_,⟨hP,hw.1,by omega,by omega,h3⟩,by omega,h4⟩
 simp (disch:=first | decide | omega | assumption) only [stw,stc,Nat.reduceAdd,Nat.reduceSub,rm,h1,g1,g2]
 rfl
noncomputable def tabIf:DS:=(sIf (dBin fEq (dBin fMod (dBin fDiv (dVar 3) (dC (.int 280))) (dC (.int 8))) (dC (.int 5))) (sSeq (sSet 5 (dBin fAdd (dVar 5) (dC (.int 2))))
 (sSet 6 (dBin fAdd (dVar 6) (dC (.int 5))))) sNil)
noncomputable def tabEnd:DS:=(sSeq (sSet 8 (dCell (dLst [])))
 (sSeq (sFor (iRange1 (dVar 6)) (bName 9) tableB)
 (sRet (dTup [(dVar 2),(dVar 5),(dUn fTuple (dVar 8))]))))
theorem b_table_is:b_table =
 (sSeq (sSet 3 (dCall (cal fV_cell) [(dVar 0),(dVar 1)]))
 (sSeq (sSet 4 (dBin fEq (dBin fMod (dVar 3) (dC (.int 2))) (dC (.int 0))))
 (sSeq (sSet 5 (dBin fAdd (dC (.int 1)) (dBin fMod (dBin fDiv (dVar 3) (dC (.int 2))) (dC (.int 4)))))
 (sSeq (sSet 6 (dBin fMod (dBin fDiv (dVar 3) (dC (.int 8))) (dC (.int 7))))
 (sSeq (sSet 7 (dBin fAdd (dC (.int 1)) (dBin fMod (dBin fDiv (dVar 3) (dC (.int 56))) (dC (.int 5)))))
 (sSeq tabIf tabEnd)))))):=rfl
theorem tabIf_ok (x0 x1 x2 x4 x7 x8 x9 x10 x11:Option SV) (c:Int) (a b:Nat) (μ:Store):∃ a' b':Nat,tabIf [x0,x1,x2,some (.val (.int c)),x4,some (.val (.int (1 + a))),some (.val (.int b)),x7,x8,x9,x10,x11] μ = .nx [x0,x1,x2,some (.val (.int c)),x4,some (.val (.int (1 + a':Nat))),some (.val (.int b')),x7,x8,x9,x10,x11] μ ∧ a' ≤ a + 2 ∧ b' ≤ b + 5:=by
 unfold tabIf
 cases hz:(c / 280 % 8 == 5) with
 | false => exact ⟨a,b,by simp (disch:=first | decide | omega | assumption) only [stw,stc,Nat.reduceAdd,Nat.reduceSub,hz]; rfl,Nat.le_add_right _ _,Nat.le_add_right _ _⟩
 | true => exact ⟨a + 2,b + 5,by simp (disch:=first | decide | omega | assumption) only [stw,stc,Nat.reduceAdd,Nat.reduceSub,hz]; rfl,Nat.le_refl _,Nat.le_refl _⟩
theorem table_ok (ns:List Int) {p:Int} (hP:IsPr p) (at_:Int) (ha:0 ≤ at_ ∧ at_ ≤ 500) (μ:Store) :
  ∃ (w:Nat) (rows:Rows),fnV 12 b_table [.val (.lst (ns.map T.int)),.val (.int at_),.val (.int p)] μ = .ok (.val (tb p w rows)) μ ∧ Tbl p w rows ∧ w ≤ 6 ∧ rows.length ≤ 11 ∧ ∀ q ∈ rows,0 ≤ q.1 ∧ q.1 < 5:=by
 obtain ⟨c,hc⟩:=cell_ok ns at_ ha.1 (Int.le_trans ha.2 (by decide))
 generalize hbd:(c % 2 == 0) = bd
 obtain ⟨mn,hmn,hmn2⟩:∃ mn:Int,1 + c / 56 % 5 = mn ∧ 0 < mn ∧ mn ≤ 5:=⟨_,rfl,by omega⟩
 obtain ⟨a,ha1,ha2⟩:=toNat_mod (c / 2) 4 (by decide)
 obtain ⟨b,hb1,hb2⟩:=toNat_mod (c / 8) 7 (by decide)
 obtain ⟨a',b',hif,ha3,hb3⟩:=tabIf_ok (some (.val (.lst (ns.map T.int)))) (some (.val (.int at_))) (some (.val (.int p))) (some (.val (.bl bd))) (some (.val (.int mn))) none none none none c a b μ
 obtain ⟨rows,k1,k2,k3,k4⟩:=loop_ok (w:=1 + a') (m:=b') ns hP (by omega) hmn2 (by omega) ha bd c μ
 refine ⟨1 + a',rows,?_,k2,by omega,k3,k4⟩
 rw [b_table_is]
 simp (disch:=first | decide | omega | assumption) only [stw,stc,Nat.reduceAdd,Nat.reduceSub,hc,hbd,ha1,hb1,hmn,hif]
 exact k1
noncomputable def b_p:DS :=
 (sRet (dIdx (dLst [(dC (.int 2)),(dC (.int 3)),(dC (.int 5)),(dC (.int 7)),(dC (.int 11)),(dC (.int 13)),(dC (.int 2)),(dC (.int 97))]) (dBin fMod (dVar 0) (dC (.int 8)))))
theorem p_ok (c:Int):∃ p,IsPr p ∧ ∀ μ,fnV 1 b_p [.val (.int c)] μ = .ok (.val (.int p)) μ:=by
 have h0:=Int.emod_nonneg c (show (8:Int) ≠ 0 by omega)
 have h1:=Int.emod_lt_of_pos c (show (0:Int) < 8 by omega)
 have key:∀ x ∈ ([2,3,5,7,11,13,2,97]:List Int),x ∈ ([2,3,5,7,11,13,17,19,23,29,31,37,41,43,47,53,59,61,67,71,73,79,83,89,97]:List Int):=by decide +kernel
 have e:=atI_map (xs:=([2,3,5,7,11,13,2,97]:List Int)) (f:=T.int) (i:=c % 8) h0 (by show c % 8 < (8:Nat); omega)
 refine ⟨_,key _ (List.getElem_mem (by show (c % 8).toNat < 8; omega)),fun μ => ?_⟩
 unfold b_p
 simp only [List.map_cons,List.map_nil] at e
 simp (disch:=first | decide | omega | assumption) only [stw,stc,Nat.reduceAdd,Nat.reduceSub,e]
end Fw.K
namespace Fw.k91
open PySem Fw Fw.H Fw.E Fw.U
theorem lenS_str {μ:Store} {x:Str} (h:x.length ≤ 2000000):lenS μ (.val (.str x)) = some (.int x.length):=by
 show (if x.length ≤ szL then some (T.int x.length) else none) = _
 rw [if_pos (by unfold szL; lia)]
theorem idxS_str (μ:Store) (x:Str) (u:T):idxS μ (.val (.str x)) u = (fIdx (.str x) u).map SV.val:=(rfl)
theorem isnum_ok (w:Str) (hl:w.length ≤ 2000000) (μ:Store):fV_is_number [.val (.str w)] μ = .ok (.val (.bl (num w))) μ:=by
 have eL:=lenS_str (μ:=μ) hl
 unfold fV_is_number b_is_number
 by_cases h1:(w == "") = true
 ·have:num w = false:=by unfold num; rw [h1]; rfl
  rw [this]
  simp (disch:=first | decide | omega | assumption) only [stw,stc,Nat.reduceAdd,Nat.reduceSub,h1]
 ·have h1:(w == "") = false:=by simpa using h1
  have hne:w.cps.toList ≠ []:=fun e => by rw [(empty_iff w).mpr e] at h1; cases h1
  by_cases h2:w.length ≤ 60
  ·have g2:decide ((w.length:Int) > 60) = false:=decide_eq_false (by lia)
   obtain ⟨c,cs,hc⟩:∃ c cs,w.cps.toList = c :: cs:=by
    cases e:w.cps.toList with
    | nil => exact absurd e hne
    | cons c cs => exact ⟨c,cs,rfl⟩
   have eI:fIdx (.str w) (.int 0) = some (.str ⟨#[c]⟩):=by
    show (if w.length ≤ szL then (atI w.cps.toList 0).map (fun c => T.str ⟨#[c]⟩) else none) = _
    rw [if_pos (by unfold szL; lia),hc,atI_zero]; rfl
   have e0:((⟨#[c]⟩:Str) == "0") = decide (c = 48):=by
    by_cases z:c = 48
    ·subst z; rfl
    ·rw [decide_eq_false z]
     cases q:((⟨#[c]⟩:Str) == "0") with
     | false => rfl
     | true =>
      have:=congrArg (fun s:Str => s.cps.toList) (eq_of_beq q)
      have:[c] = [48]:=this
      cases this; exact absurd rfl z
   have eh:w.cps.toList.head? = some c:=by rw [hc]; rfl
   have en:num w = (!(decide (c = 48) && !(w == "0")) && dgs w):=by
    unfold num
    rw [h1,decide_eq_true h2,eh]
    have:decide (some c = some 48) = decide (c = 48):=by
     by_cases z:c = 48
     ·subst z; rfl
     ·rw [decide_eq_false z,decide_eq_false (fun q => z (Option.some.inj q))]
    rw [this]; rfl
   have eA:dUn fAll (dComp (iStr (dVar 0)) [none] (bName 0) (dC (.bl true)) (dBin fInS (dVar 0) (dC (.str "0123456789")))) [some (.val (.str w))] μ = .ok (.val (.bl (dgs w))) μ:=by
    have hcm:=compL_ofA (same:=fun _ => True) (b:=bName 0) (d:=dBin fInS (dVar 0) (dC (.str "0123456789"))) (e:=[none]) (μ:=μ) (fun c:Nat => T.str ⟨#[c]⟩) (fun c => .bl (decide (48 ≤ c ∧ c ≤ 57))) trivial w.cps.toList fun c _ => by
     refine ⟨_,rfl,?_⟩
     have:fInS (.str ⟨#[c]⟩) (.str "0123456789") = some (.bl (decide (48 ≤ c ∧ c ≤ 57))):=by
      show some (T.bl (!(Builtin.Str.occurrences ("0123456789":Str) ⟨#[c]⟩ 0 ("0123456789":Str).length 1).isEmpty)) = _
      rw [StrLaws.found_one]
      have:decide (c ∈ ("0123456789":Str).cps.toList) = decide (48 ≤ c ∧ c ≤ 57):=by
       rw [show ("0123456789":Str).cps.toList = [48,49,50,51,52,53,54,55,56,57] from rfl]
       by_cases z:48 ≤ c ∧ c ≤ 57
       ·rw [decide_eq_true z,decide_eq_true]
        simp; omega
       ·rw [decide_eq_false z,decide_eq_false]
        simp; omega
      rw [this]
     simp (disch:=first | decide | omega | assumption) only [stw,stc,Nat.reduceAdd,Nat.reduceSub,this]
    have hl':(signsT w).length ≤ szL:=by
     show (w.cps.toList.map _).length ≤ szL
     rw [List.length_map,← tl_len]; unfold szL; lia
    have e1:dComp (iStr (dVar 0)) [none] (bName 0) (dC (.bl true)) (dBin fInS (dVar 0) (dC (.str "0123456789"))) [some (.val (.str w))] μ = .ok (.val (.lst (w.cps.toList.map fun c => T.bl (decide (48 ≤ c ∧ c ≤ 57))))) μ:=by
     simp only [dComp_is,iStr_is,dVar_is,slot_zero,R.lift_some,R.bind_ok,asStr_str,ini_none,ini_nil]
     rw [show signsT w = w.cps.toList.map fun c => T.str ⟨#[c]⟩ from rfl] at hl' ⊢
     rw [hcm,R.calm_ok,R.bind_ok,if_pos hl']
    rw [dUn_is,e1,R.bind_ok,rd_val,ap1_some,fAll_map]; rfl
   generalize hD:dUn fAll (dComp (iStr (dVar 0)) [none] (bName 0) (dC (.bl true)) (dBin fInS (dVar 0) (dC (.str "0123456789")))) = D at eA
   rw [en]
   cases z1:decide (c = 48) with
   | false =>
    rw [z1] at e0
    simp (disch:=first | decide | omega | assumption) only [stw,stc,Nat.reduceAdd,Nat.reduceSub,h1,eL,g2,idxS_str,eI,e0,eA]
    rfl
   | true =>
    rw [z1] at e0
    cases z2:(w == "0") with
    | true =>
     simp (disch:=first | decide | omega | assumption) only [stw,stc,Nat.reduceAdd,Nat.reduceSub,h1,eL,g2,idxS_str,eI,e0,z2,eA]
     rfl
    | false =>
     simp (disch:=first | decide | omega | assumption) only [stw,stc,Nat.reduceAdd,Nat.reduceSub,h1,eL,g2,idxS_str,eI,e0,z2]
     rfl
  ·have g2:decide ((w.length:Int) > 60) = true:=decide_eq_true (by lia)
   have:num w = false:=by unfold num; rw [decide_eq_false h2]; simp
   rw [this]
   simp (disch:=first | decide | omega | assumption) only [stw,stc,Nat.reduceAdd,Nat.reduceSub,h1,eL,g2]
theorem sRaise_is (n:Str) (e:Slots) (μ:Store):sRaise n e μ = .err (.exc n none) e μ:=(rfl)
theorem seq_err (c:T) (e:Slots) (μ:Store) (f:Slots → Store → RS):(RS.err c e μ).seq f = .err c e μ:=(rfl)
theorem endV_err (n:Nat) (c:T) (e:Slots) (μ:Store):RS.endV n (.err c e μ) = .err c (μ.take n):=(rfl)
theorem toS_err {α:Type} (c:T) (e:Slots) (μ:Store) (f:α → Store → RS):(R.err c μ:R α).toS e f = .err c e μ:=(rfl)
theorem calm_rt {d:DS} {e:Slots} {μ μ':Store} {x:SV} (h:d e μ = .rt x μ'):sCalm d e μ = .rt x μ':=by unfold sCalm; rw [h]
theorem chain_ok {a b c:Int} {da db dc:D} {e:Slots} {μ:Store} (h1:da e μ = .ok (.val (.int a)) μ) (h2:db e μ = .ok (.val (.int b)) μ) (h3:dc e μ = .ok (.val (.int c)) μ):dChain fLe fLe da db dc e μ = .ok (.val (.bl (decide (a ≤ b) && decide (b ≤ c)))) μ:=by
 rw [dChain_is,h1,R.bind_ok,h2,R.bind_ok]
 by_cases z:a ≤ b
 ·rw [decide_eq_true z]
  simp (disch:=first | decide | omega | assumption) only [stw,stc,Nat.reduceAdd,Nat.reduceSub,h3,z]
  simp
 ·rw [decide_eq_false z]
  simp (disch:=first | decide | omega | assumption) only [stw,stc,Nat.reduceAdd,Nat.reduceSub,z]
  simp
theorem dMeth_at {g:Str → T → Option T} {a b:D} {e:Slots} {μ:Store} {s:Str} {t r:T} (h1:a e μ = .ok (.val (.str s)) μ) (h2:b e μ = .ok (.val t) μ) (h3:g s t = some r):dMeth g a b e μ = .ok (.val r) μ:=by
 rw [dMeth_is,h1,R.bind_ok,asStr_str,R.lift_some,R.bind_ok,h2,R.bind_ok,rd_val,Option.bind_some,h3]; rfl
noncomputable def res (o:Option T) (μ:Store):R SV:=match o with
 | some t => .ok (.val t) μ
 | none => .err (.exc "NoText" none) μ
theorem res_some (t:T) (μ:Store):res (some t) μ = .ok (.val t) μ:=(rfl)
theorem res_none (μ:Store):res none μ = .err (.exc "NoText" none) μ:=(rfl)
noncomputable def rng (w:Str) (a b:Int):Option T:=if num w = true ∧ a ≤ (val w:Int) ∧ (val w:Int) ≤ b then some (.int (val w)) else none
theorem rnX_ok (w:Str) (hl:w.length ≤ 2000000) (a b:Int) (μ:Store):fX_read_number [.val (.str w),.val (.int a),.val (.int b)] μ = res (rng w a b) μ:=by
 have e1:=isnum_ok w hl μ
 unfold fX_read_number bX_read_number rng
 cases h:num w with
 | false =>
  rw [h] at e1
  rw [if_neg (by simp),res_none]
  simp (disch:=first | decide | omega | assumption) only [stw,stc,Nat.reduceAdd,Nat.reduceSub,e1,sRaise_is,seq_err,endV_err,List.take_length]
 | true =>
  rw [h] at e1
  have e2:=int_of_num h
  have e3:dUn fIntS (dVar 0) [some (.val (.str w)),some (.val (.int a)),some (.val (.int b))] μ = .ok (.val (.int (val w))) μ:=by simp (disch:=first | decide | omega | assumption) only [stw,stc,Nat.reduceAdd,Nat.reduceSub,e2]
  have e4:=chain_ok (da:=dVar 1) (db:=dUn fIntS (dVar 0)) (dc:=dVar 2) (e:=[some (.val (.str w)),some (.val (.int a)),some (.val (.int b))]) (μ:=μ) (a:=a) (b:=val w) (c:=b) (by simp (disch:=first | decide | omega | assumption) only [stw,stc,Nat.reduceAdd,Nat.reduceSub]) e3 (by simp (disch:=first | decide | omega | assumption) only [stw,stc,Nat.reduceAdd,Nat.reduceSub])
  have e5:sCalm (sRet (dUn fIntS (dVar 0))) [some (.val (.str w)),some (.val (.int a)),some (.val (.int b))] μ = .rt (.val (.int (val w))) μ:=calm_rt (by rw [sRet_is,e3,R.toS_ok])
  rw [← Bool.decide_and] at e4
  by_cases z:a ≤ (val w:Int) ∧ (val w:Int) ≤ b
  ·rw [if_pos ⟨rfl,z⟩,res_some]
   rw [decide_eq_true z] at e4
   generalize dChain fLe fLe (dVar 1) (dUn fIntS (dVar 0)) (dVar 2) = D at e4
   generalize sCalm (sRet (dUn fIntS (dVar 0))) = D2 at e5
   simp (disch:=first | decide | omega | assumption) only [stw,stc,Nat.reduceAdd,Nat.reduceSub,e1,e4,e5]
  ·rw [if_neg (fun q => z q.2),res_none]
   rw [decide_eq_false z] at e4
   generalize dChain fLe fLe (dVar 1) (dUn fIntS (dVar 0)) (dVar 2) = D at e4
   simp (disch:=first | decide | omega | assumption) only [stw,stc,Nat.reduceAdd,Nat.reduceSub,e1,e4,sRaise_is,seq_err,endV_err,List.take_length]
theorem rn_ok {w:Str} (hl:w.length ≤ 2000000) {a b:Int} {t:T} (h:rng w a b = some t) (μ:Store):fV_read_number [.val (.str w),.val (.int a),.val (.int b)] μ = .ok (.val t) μ:=by
 have e1:=isnum_ok w hl μ
 unfold rng at h
 split at h
 ·rename_i q
  cases h
  obtain ⟨h,z⟩:=q
  unfold fV_read_number b_read_number
  rw [h] at e1
  have e2:=int_of_num h
  have e3:dUn fIntS (dVar 0) [some (.val (.str w)),some (.val (.int a)),some (.val (.int b))] μ = .ok (.val (.int (val w))) μ:=by simp (disch:=first | decide | omega | assumption) only [stw,stc,Nat.reduceAdd,Nat.reduceSub,e2]
  have e4:=chain_ok (da:=dVar 1) (db:=dUn fIntS (dVar 0)) (dc:=dVar 2) (e:=[some (.val (.str w)),some (.val (.int a)),some (.val (.int b))]) (μ:=μ) (a:=a) (b:=val w) (c:=b) (by simp (disch:=first | decide | omega | assumption) only [stw,stc,Nat.reduceAdd,Nat.reduceSub]) e3 (by simp (disch:=first | decide | omega | assumption) only [stw,stc,Nat.reduceAdd,Nat.reduceSub])
  rw [← Bool.decide_and,decide_eq_true z] at e4
  generalize dChain fLe fLe (dVar 1) (dUn fIntS (dVar 0)) (dVar 2) = D at e4
  generalize dUn fIntS (dVar 0) = D2 at e3
  simp (disch:=first | decide | omega | assumption) only [stw,stc,Nat.reduceAdd,Nat.reduceSub,e1,e4,e3]
 ·cases h
noncomputable def prm (x:Nat):Bool:=decide (2 ≤ x) && decide (x ≤ 97) && (irange 2 ((x:Int) - 2).toNat).all fun k => !((x:Int) % k == 0)
theorem whole_int (n:Int) (μ:Store):fV_is_whole [.val (.int n)] μ = .ok (.val (.bl true)) μ:=by
 unfold fV_is_whole b_is_whole
 simp (disch:=first | decide | omega | assumption) only [stw,stc,Nat.reduceAdd,Nat.reduceSub,dIs_is,isS_val,isT_int,isK]
theorem prime_int (x:Nat) (μ:Store):fV_is_prime [.val (.int x)] μ = .ok (.val (.bl (prm x))) μ:=by
 unfold fV_is_prime b_is_prime prm
 by_cases h:(x:Int) < 2
 ·rw [decide_eq_false (show ¬ 2 ≤ x by lia)]
  simp [whole_int,h]
 by_cases h':97 < (x:Int)
 ·rw [decide_eq_true (show 2 ≤ x by lia),decide_eq_false (show ¬ x ≤ 97 by lia)]
  simp [whole_int,h,h']
 rw [decide_eq_true (show 2 ≤ x by lia),decide_eq_true (show x ≤ 97 by lia)]
 simp (disch:=omega) [whole_int,h,h']
 rw [intsT_eq,compL_all (fun k => .bl (!((x:Int) % k == 0))) trivial]
 ·rw [R.calm_ok,R.bind_ok,if_pos (by unfold szL; omega)]
  simp only [R.bind_ok,rd_val,ap1_some]
  rw [fAll_map]
  simp
 ·intro k hk
  rw [mem_irange] at hk
  refine ⟨_,rfl,?_⟩
  have:0 < k:=by omega
  simp [this]
noncomputable def rdp (w:Str):Option T:=if num w = true ∧ prm (val w) = true then some (.int (val w)) else none
theorem rpX_ok (w:Str) (hl:w.length ≤ 2000000) (μ:Store):fX_read_p [.val (.str w)] μ = res (rdp w) μ:=by
 have e1:=isnum_ok w hl μ
 unfold fX_read_p bX_read_p rdp
 cases h:num w with
 | false =>
  rw [h] at e1
  rw [if_neg (by simp),res_none]
  simp (disch:=first | decide | omega | assumption) only [stw,stc,Nat.reduceAdd,Nat.reduceSub,e1,sRaise_is,seq_err,endV_err,List.take_length]
 | true =>
  rw [h] at e1
  have e2:=int_of_num h
  have e3:dUn fIntS (dVar 0) [some (.val (.str w))] μ = .ok (.val (.int (val w))) μ:=by simp (disch:=first | decide | omega | assumption) only [stw,stc,Nat.reduceAdd,Nat.reduceSub,e2]
  have e5:sCalm (sRet (dUn fIntS (dVar 0))) [some (.val (.str w))] μ = .rt (.val (.int (val w))) μ:=calm_rt (by rw [sRet_is,e3,R.toS_ok])
  have e6:=prime_int (val w) μ
  cases z:prm (val w) with
  | true =>
   rw [z] at e6
   rw [if_pos ⟨rfl,rfl⟩,res_some]
   generalize sCalm (sRet (dUn fIntS (dVar 0))) = D2 at e5
   simp (disch:=first | decide | omega | assumption) only [stw,stc,Nat.reduceAdd,Nat.reduceSub,e1,e2,e6,e5]
  | false =>
   rw [z] at e6
   rw [if_neg (by simp),res_none]
   simp (disch:=first | decide | omega | assumption) only [stw,stc,Nat.reduceAdd,Nat.reduceSub,e1,e2,e6,sRaise_is,seq_err,endV_err,List.take_length]
theorem rp_ok {w:Str} (hl:w.length ≤ 2000000) {t:T} (h:rdp w = some t) (μ:Store):fV_read_p [.val (.str w)] μ = .ok (.val t) μ:=by
 have e1:=isnum_ok w hl μ
 unfold rdp at h
 split at h
 ·rename_i q
  cases h
  obtain ⟨h,z⟩:=q
  have e6:=prime_int (val w) μ
  rw [h] at e1
  rw [z] at e6
  have e2:=int_of_num h
  unfold fV_read_p b_read_p
  simp (disch:=first | decide | omega | assumption) only [stw,stc,Nat.reduceAdd,Nat.reduceSub,e1,e2,e6]
 ·cases h
noncomputable def lts:List Nat:=[97,98,99,100,101,102,103,104,105,106]
noncomputable def hnd (w:Str):Option T:=match tl w with
 | [c] => if c ∈ lts then some (.int ((c:Int) - 97)) else none
 | _ => none
theorem tl_abc:tl ("abcdefghij":Str) = lts:=by decide +kernel
theorem idx_abc:∀ c ∈ lts,Builtin.Str.occurrences ("abcdefghij":Str) ⟨#[c]⟩ 0 ("abcdefghij":Str).length 1 = [c - 97] ∧ 97 ≤ c:=by decide +kernel
theorem index_ok {c:Nat} (h:c ∈ lts):indexT "abcdefghij" (.str ⟨#[c]⟩) = some (.int ((c:Int) - 97)):=by
 show (match Builtin.Str.occurrences ("abcdefghij":Str) ⟨#[c]⟩ 0 ("abcdefghij":Str).length 1 with | i :: _ => some (T.int (i:Int)) | [] => none) = _
 rw [(idx_abc c h).1]
 show some (T.int ((c - 97:Nat):Int)) = _
 have:=(idx_abc c h).2
 rw [show ((c - 97:Nat):Int) = (c:Int) - 97 by lia]
theorem nin_ok (c:Nat):fNinS (.str ⟨#[c]⟩) (.str "abcdefghij") = some (.bl (!decide (c ∈ lts))):=by
 show some (T.bl (!(!(Builtin.Str.occurrences ("abcdefghij":Str) ⟨#[c]⟩ 0 ("abcdefghij":Str).length 1).isEmpty))) = _
 rw [StrLaws.found_one]
 rw [show ("abcdefghij":Str).cps.toList = lts from tl_abc]
theorem one_sign {w:Str} {c:Nat} (h:tl w = [c]):w = ⟨#[c]⟩:=tl_inj h
theorem rhX_ok (w:Str) (hl:w.length ≤ 2000000) (μ:Store):fX_read_hand [.val (.str w)] μ = res (hnd w) μ:=by
 have eL:=lenS_str (μ:=μ) hl
 unfold fX_read_hand bX_read_hand hnd
 by_cases h1:w.length = 1
 ·obtain ⟨c,hc⟩:∃ c,tl w = [c]:=List.length_eq_one_iff.mp (by rw [← tl_len]; exact h1)
  have hw:=one_sign hc
  subst hw
  rw [hc]
  have hn:=nin_ok c
  have g1:(((⟨#[c]⟩:Str).length:Int) == 1) = true:=by rw [h1]; rfl
  by_cases z:c ∈ lts
  ·rw [decide_eq_true z] at hn
   have e5:sCalm (sRet (dMeth indexT (dC (.str "abcdefghij")) (dVar 0))) [some (.val (.str ⟨#[c]⟩))] μ = .rt (.val (.int ((c:Int) - 97))) μ:=calm_rt (by
    have e:=dMeth_at (g:=indexT) (a:=dC (.str "abcdefghij")) (b:=dVar 0) (e:=[some (.val (.str ⟨#[c]⟩))]) (μ:=μ) (by simp (disch:=first | decide | omega | assumption) only [stw,stc,Nat.reduceAdd,Nat.reduceSub]) (by simp (disch:=first | decide | omega | assumption) only [stw,stc,Nat.reduceAdd,Nat.reduceSub]) (index_ok z)
    rw [sRet_is,e,R.toS_ok])
   generalize sCalm (sRet (dMeth indexT (dC (.str "abcdefghij")) (dVar 0))) = D at e5
   show _ = res (if c ∈ lts then _ else _) μ
   rw [if_pos z,res_some]
   simp (disch:=first | decide | omega | assumption) only [stw,stc,Nat.reduceAdd,Nat.reduceSub,eL,g1,hn,e5]
  ·rw [decide_eq_false z] at hn
   show _ = res (if c ∈ lts then _ else _) μ
   rw [if_neg z,res_none]
   simp (disch:=first | decide | omega | assumption) only [stw,stc,Nat.reduceAdd,Nat.reduceSub,eL,g1,hn,sRaise_is,seq_err,endV_err,List.take_length]
 ·have g1:((w.length:Int) == 1) = false:=by
   rw [beq_eq_false_iff_ne]; lia
  have:(match tl w with | [c] => if c ∈ lts then some (T.int ((c:Int) - 97)) else none | _ => none) = none:=by
   split
   ·rename_i c hc
    rw [tl_len,hc] at h1
    exact absurd rfl h1
   ·rfl
  rw [this,res_none]
  simp (disch:=first | decide | omega | assumption) only [stw,stc,Nat.reduceAdd,Nat.reduceSub,eL,g1,sRaise_is,seq_err,endV_err,List.take_length]
theorem rh_ok {w:Str} {t:T} (h:hnd w = some t) (μ:Store):fV_read_hand [.val (.str w)] μ = .ok (.val t) μ:=by
 unfold hnd at h
 split at h
 ·rename_i c hc
  split at h
  ·rename_i z
   cases h
   have hw:=one_sign hc
   subst hw
   have eL:=lenS_str (μ:=μ) (x:=⟨#[c]⟩) (by show 1 ≤ 2000000; lia)
   have g1:(((⟨#[c]⟩:Str).length:Int) == 1) = true:=rfl
   have hn:=nin_ok c
   rw [decide_eq_true z] at hn
   have e5:=dMeth_at (g:=indexT) (a:=dC (.str "abcdefghij")) (b:=dVar 0) (e:=[some (.val (.str ⟨#[c]⟩))]) (μ:=μ) (by simp (disch:=first | decide | omega | assumption) only [stw,stc,Nat.reduceAdd,Nat.reduceSub]) (by simp (disch:=first | decide | omega | assumption) only [stw,stc,Nat.reduceAdd,Nat.reduceSub]) (index_ok z)
   unfold fV_read_hand b_read_hand
   generalize dMeth indexT (dC (.str "abcdefghij")) (dVar 0) = D at e5
   simp (disch:=first | decide | omega | assumption) only [stw,stc,Nat.reduceAdd,Nat.reduceSub,eL,g1,hn,e5]
  ·cases h
 ·cases h
end Fw.k91
namespace Fw.k91
open PySem Fw Fw.H Fw.E Fw.U
noncomputable def trav (f:Str → Option T):List Str → Option (List T)
 | [] => some []
 | w :: ws => match f w with
  | none => none
  | some t => match trav f ws with
   | none => none
   | some ts => some (t :: ts)
noncomputable def resL (o:Option (List T)) (μ:Store):R (List T):=match o with
 | some t => .ok t μ
 | none => .err (.exc "NoText" none) μ
theorem compX_gen {same:Store → Prop} {μ:Store} (hs:same μ) (f:Str → Option T) (d:D) (r:Slots):∀ (ws:List Str),(∀ w ∈ ws,d (some (.val (.str w)) :: r) μ = res (f w) μ) →
  compX same (bName 0) d (none :: r) (ws.map T.str) μ = resL (trav f ws) μ
 | [],_ => by rw [List.map_nil]; unfold compX; rw [if_pos hs]; rfl
 | w :: ws,hl => by
  have e:=hl w List.mem_cons_self
  have ih:=compX_gen hs f d r ws fun x hx => hl x (List.mem_cons_of_mem _ hx)
  rw [List.map_cons]
  unfold compX
  rw [if_pos hs]
  simp only [bName_is,List.set_cons_zero]
  rw [e]
  unfold trav
  cases f w with
  | none => rfl
  | some t =>
   show ((compX same (bName 0) d (none :: r) (ws.map T.str) μ).bind fun us μ4 => .ok (t :: us) μ4) = _
   rw [ih]
   cases trav f ws with
   | none => rfl
   | some ts => rfl
theorem compL_gen {same:Store → Prop} {μ:Store} (hs:same μ) (f:Str → Option T) (d:D) (r:Slots):∀ (ws:List Str) {ts:List T},(∀ w ∈ ws,∀ t,f w = some t → d (some (.val (.str w)) :: r) μ = .ok (.val t) μ) → trav f ws = some ts →
  compL same (bName 0) (dC (.bl true)) d (none :: r) (ws.map T.str) μ = .ok ts μ
 | [],ts,_,h => by
  cases h
  rw [List.map_nil]; unfold compL; rw [if_pos hs]
 | w :: ws,ts,hl,h => by
  unfold trav at h
  cases h1:f w with
  | none => rw [h1] at h; cases h
  | some t =>
   rw [h1] at h
   cases h2:trav f ws with
   | none => rw [h2] at h; cases h
   | some us =>
    rw [h2] at h
    cases h
    have e:=hl w List.mem_cons_self t h1
    have ih:=compL_gen hs f d r ws (fun x hx => hl x (List.mem_cons_of_mem _ hx)) h2
    rw [List.map_cons]
    unfold compL
    rw [if_pos hs]
    simp (disch:=first | decide | omega | assumption) only [stw,stc,Nat.reduceAdd,Nat.reduceSub,e,ih]
theorem splitT_of {t sep:Str} (h:t.length ≤ 2000000) (h1:1 ≤ sep.length):splitT t (.str sep) = some (.lst ((Txt.split t sep).map T.str)):=by
 show (if (sep.length == 0) = false ∧ t.length ≤ szL ∧ (Txt.split t sep).length ≤ szL then some (T.lst ((Txt.split t sep).map T.str)) else none) = _
 have h2:=split_lenS h1 t
 rw [if_pos ⟨by rw [beq_eq_false_iff_ne]; lia,by unfold szL; lia,by unfold szL; lia⟩]
theorem bl1:1 ≤ (" ":Str).length:=by decide +kernel
theorem sc1:1 ≤ ("; ":Str).length:=by decide +kernel
noncomputable def pairV:Option T → Option (List T) → Option T
 | some h,some ts => some (.tup [h,.tup ts])
 | _,_ => none
noncomputable def rowV (p w:Int) (t:Str):Option T:=match Txt.split t " " with
 | [] => none
 | x :: ws => if (ws.length:Int) = w then pairV (hnd x) (trav (fun v => rng v 0 (p - 1)) ws) else none
theorem cut1 (x:T) (xs:List T):fCut (.lst (x :: xs)) (some 1) none = some (.lst xs):=by
 show some (T.lst (cutT (x :: xs) (some 1) none)) = _
 have:cutT (x :: xs) (some 1) none = xs:=by
  unfold cutT sIx
  simp
 rw [this]
theorem cut2 (x y:T) (xs:List T):fCut (.lst (x :: y :: xs)) (some 2) none = some (.lst xs):=by
 show some (T.lst (cutT (x :: y :: xs) (some 2) none)) = _
 have:cutT (x :: y :: xs) (some 2) none = xs:=by
  unfold cutT sIx
  simp only [List.length_cons]
  rw [if_neg (by lia),show min (2:Int).toNat (xs.length + 1 + 1) = 2 from by
   show min 2 _ = 2
   lia]
  simp
 rw [this]
theorem dTup2 {A B:D} {e:Slots} {μ:Store} {a:Option T} {b:Option (List T)} (h1:A e μ = res a μ) (h2:B e μ = res (b.map T.tup) μ):dTup [A,B] e μ = res (pairV a b) μ:=by
 rw [dTup_is,dArgs_cons,h1]
 cases a with
 | none => rfl
 | some t =>
  rw [res_some,R.bind_ok,dArgs_cons,h2]
  cases b with
  | none => rfl
  | some ts => rfl
theorem tupX {it:DI} {mp:List (Option Nat)} {d:D} {e:Slots} {μ:Store} {W:Wk} {o:Option (List T)} (h1:it e μ = .ok W μ) (hz:W.items.length ≤ szL) (h2:compX W.same (bName 0) d (ini mp e) W.items μ = resL o μ):dUn fTuple (dCompX it mp (bName 0) d) e μ = res (o.map T.tup) μ:=by
 rw [dUn_is,dCompX_is,h1,R.bind_ok,if_pos hz,h2]
 cases o with
 | none => rfl
 | some ts => rfl
theorem res_seq (o:Option T) (D:D) (e:Slots) (μ:Store) (h:D e μ = res o μ):RS.endV μ.length (sRet D e μ) = res o μ:=by
 rw [sRet_is,h]
 cases o with
 | none => rw [res_none,toS_err,endV_err,List.take_length]
 | some t => rw [res_some,R.toS_ok,endV_rt,ice_val,List.take_length]
theorem rrX_ok (p w:Int) {t:Str} (h:t.length ≤ 2000000) (μ:Store):fX_read_row [.val (.int p),.val (.int w),.val (.str t)] μ = res (rowV p w t) μ:=by
 obtain ⟨x,ws,hs,_⟩:=split_specS t " "
 have hS:=splitT_of h bl1
 have hl:=split_lenS bl1 t
 have hwl:∀ v ∈ x :: ws,v.length ≤ 2000000:=fun v hv => by
  rw [← hs] at hv
  exact Nat.le_trans (split_wordS hv).1 h
 unfold rowV
 rw [hs] at hS hl ⊢
 rw [List.map_cons] at hS
 have e1:dMeth splitT (dVar 2) (dC (.str " ")) [some (.val (.int p)),some (.val (.int w)),some (.val (.str t)),none] μ = .ok (.val (.lst (.str x :: ws.map T.str))) μ:=dMeth_at (by simp (disch:=first | decide | omega | assumption) only [stw,stc,Nat.reduceAdd,Nat.reduceSub]) (by simp (disch:=first | decide | omega | assumption) only [stw,stc,Nat.reduceAdd,Nat.reduceSub]) hS
 unfold fX_read_row bX_read_row
 generalize dMeth splitT (dVar 2) (dC (.str " ")) = D0 at e1
 show _ = res (if (ws.length:Int) = w then _ else _) μ
 have hlen:lenS μ (.val (.lst (T.str x :: ws.map T.str))) = some (.int ((ws.length:Int) + 1)):=by
  rw [lenS_lst,List.length_cons,List.length_map]; rfl
 by_cases hw:(ws.length:Int) = w
 ·rw [if_pos hw]
  have g1:((ws.length:Int) + 1 == 1 + w) = true:=by rw [beq_iff_eq]; lia
  have e2:dCall fX_read_hand [(dIdx (dVar 3) (dC (.int 0)))] [some (.val (.int p)),some (.val (.int w)),some (.val (.str t)),some (.val (.lst (.str x :: ws.map T.str)))] μ = res (hnd x) μ:=by
   have:=rhX_ok x (hwl x List.mem_cons_self) μ
   simp (disch:=first | decide | omega | assumption) only [stw,stc,Nat.reduceAdd,Nat.reduceSub,this]
  have c1:=cut1 (.str x) (ws.map T.str)
  have i1:iSeq (dCut (dVar 3) (some (dC (.int 1))) none) [some (.val (.int p)),some (.val (.int w)),some (.val (.str t)),some (.val (.lst (.str x :: ws.map T.str)))] μ = .ok ⟨ws.map T.str,fun μ' => rd μ' (.val (.lst (ws.map T.str))) = rd μ (.val (.lst (ws.map T.str)))⟩ μ:=by
   simp (disch:=first | decide | omega | assumption) only [stw,stc,Nat.reduceAdd,Nat.reduceSub,c1]
  have i2:=compX_gen (same:=fun μ' => rd μ' (.val (.lst (ws.map T.str))) = rd μ (.val (.lst (ws.map T.str)))) (μ:=μ) rfl (fun v => rng v 0 (p - 1)) (dCall fX_read_number [(dVar 0),(dC (.int 0)),(dBin fSub (dVar 1) (dC (.int 1)))]) [some (.val (.int p))] ws fun v hv => by
   have:=rnX_ok v (hwl v (List.mem_cons_of_mem _ hv)) 0 (p - 1) μ
   simp (disch:=first | decide | omega | assumption) only [stw,stc,Nat.reduceAdd,Nat.reduceSub,this]
  have e3:=tupX (mp:=[none,some 0]) i1 (by show (ws.map T.str).length ≤ szL; rw [List.length_map]; simp only [List.length_cons] at hl; unfold szL; lia) i2
  have e4:=dTup2 e2 e3
  have e5:=res_seq _ _ _ _ e4
  generalize sRet (dTup [(dCall fX_read_hand [(dIdx (dVar 3) (dC (.int 0)))]),(dUn fTuple (dCompX (iSeq (dCut (dVar 3) (some (dC (.int 1))) none)) [none,some 0] (bName 0) (dCall fX_read_number [(dVar 0),(dC (.int 0)),(dBin fSub (dVar 1) (dC (.int 1)))])))]) = D1 at e5
  simp (disch:=first | decide | omega | assumption) only [stw,stc,Nat.reduceAdd,Nat.reduceSub,e1,hlen,g1,e5]
 ·rw [if_neg hw,res_none]
  have g1:((ws.length:Int) + 1 == 1 + w) = false:=by rw [beq_eq_false_iff_ne]; lia
  simp (disch:=first | decide | omega | assumption) only [stw,stc,Nat.reduceAdd,Nat.reduceSub,e1,hlen,g1,sRaise_is,seq_err,endV_err,List.take_length]
theorem rr_ok {p w:Int} {t:Str} (h:t.length ≤ 2000000) {r:T} (hr:rowV p w t = some r) (μ:Store):fV_read_row [.val (.int p),.val (.int w),.val (.str t)] μ = .ok (.val r) μ:=by
 obtain ⟨x,ws,hs,_⟩:=split_specS t " "
 have hS:=splitT_of h bl1
 have hl:=split_lenS bl1 t
 have hwl:∀ v ∈ x :: ws,v.length ≤ 2000000:=fun v hv => by
  rw [← hs] at hv
  exact Nat.le_trans (split_wordS hv).1 h
 unfold rowV at hr
 rw [hs] at hS hl hr
 rw [List.map_cons] at hS
 have hr:(if (ws.length:Int) = w then pairV (hnd x) (trav (fun v => rng v 0 (p - 1)) ws) else none) = some r:=hr
 by_cases hw:(ws.length:Int) = w
 ·rw [if_pos hw] at hr
  cases h1:hnd x with
  | none => rw [h1] at hr; cases hr
  | some a =>
   rw [h1] at hr
   cases h2:trav (fun v => rng v 0 (p - 1)) ws with
   | none => rw [h2] at hr; cases hr
   | some ts =>
    rw [h2] at hr
    cases hr
    have e1:dMeth splitT (dVar 2) (dC (.str " ")) [some (.val (.int p)),some (.val (.int w)),some (.val (.str t)),none] μ = .ok (.val (.lst (.str x :: ws.map T.str))) μ:=dMeth_at (by simp (disch:=first | decide | omega | assumption) only [stw,stc,Nat.reduceAdd,Nat.reduceSub]) (by simp (disch:=first | decide | omega | assumption) only [stw,stc,Nat.reduceAdd,Nat.reduceSub]) hS
    have hlen:lenS μ (.val (.lst (T.str x :: ws.map T.str))) = some (.int ((ws.length:Int) + 1)):=by
     rw [lenS_lst,List.length_cons,List.length_map]; rfl
    have g1:((ws.length:Int) + 1 == 1 + w) = true:=by rw [beq_iff_eq]; lia
    have c1:=cut1 (.str x) (ws.map T.str)
    have i2:=compL_gen (same:=fun _ => True) (μ:=μ) trivial (fun v => rng v 0 (p - 1)) (dCall (cal fV_read_number) [(dVar 0),(dC (.int 0)),(dBin fSub (dVar 1) (dC (.int 1)))]) [some (.val (.int p))] ws (fun v hv u hu => by
     have:=rn_ok (hwl v (List.mem_cons_of_mem _ hv)) hu μ
     simp (disch:=first | decide | omega | assumption) only [stw,stc,Nat.reduceAdd,Nat.reduceSub,this]) h2
    have hz:(ws.map T.str).length ≤ szL:=by rw [List.length_map]; simp only [List.length_cons] at hl; unfold szL; lia
    have e3:dComp (iSeq (dCut (dVar 3) (some (dC (.int 1))) none)) [none,some 0] (bName 0) (dC (.bl true)) (dCall (cal fV_read_number) [(dVar 0),(dC (.int 0)),(dBin fSub (dVar 1) (dC (.int 1)))]) [some (.val (.int p)),some (.val (.int w)),some (.val (.str t)),some (.val (.lst (.str x :: ws.map T.str)))] μ = .ok (.val (.lst ts)) μ:=by
     generalize dCall (cal fV_read_number) [(dVar 0),(dC (.int 0)),(dBin fSub (dVar 1) (dC (.int 1)))] = D2 at i2
     simp (disch:=first | decide | omega | assumption) only [stw,stc,Nat.reduceAdd,Nat.reduceSub,c1]
     rw [i2,R.calm_ok,R.bind_ok,if_pos hz]
    have e2:=rh_ok h1 μ
    unfold fV_read_row b_read_row
    generalize dMeth splitT (dVar 2) (dC (.str " ")) = D0 at e1
    generalize dComp (iSeq (dCut (dVar 3) (some (dC (.int 1))) none)) [none,some 0] (bName 0) (dC (.bl true)) (dCall (cal fV_read_number) [(dVar 0),(dC (.int 0)),(dBin fSub (dVar 1) (dC (.int 1)))]) = D3 at e3
    simp (disch:=first | decide | omega | assumption) only [stw,stc,Nat.reduceAdd,Nat.reduceSub,e1,hlen,g1,e2,e3]
 ·rw [if_neg hw] at hr; cases hr
end Fw.k91
namespace Fw.k91
open PySem Fw Fw.H Fw.E Fw.U
noncomputable def tabV (t:Str):Option T:=match Txt.split t sc with
 | a :: b :: rs => if rs.length ≤ 24 ∧ (rdp a).isSome = true ∧ (rng b 1 12).isSome = true then (trav (rowV (val a) (val b)) rs).map fun ts => .tup [.int (val a),.int (val b),.tup ts] else none
 | _ => none
theorem rdp_is {a:Str} (h:(rdp a).isSome = true):rdp a = some (.int (val a)):=by
 unfold rdp at h ⊢
 split at h
 ·rename_i q; rw [if_pos q]
 ·cases h
theorem rng_is {a:Str} {l u:Int} (h:(rng a l u).isSome = true):rng a l u = some (.int (val a)):=by
 unfold rng at h ⊢
 split at h
 ·rename_i q; rw [if_pos q]
 ·cases h
theorem non_is {o:Option T} (h:¬ o.isSome = true):o = none:=by
 cases o with
 | none => rfl
 | some t => exact absurd rfl h
theorem dTup3 {A B C:D} {e:Slots} {μ:Store} {a b:T} {c:Option (List T)} (h1:A e μ = .ok (.val a) μ) (h2:B e μ = .ok (.val b) μ) (h3:C e μ = res (c.map T.tup) μ):dTup [A,B,C] e μ = res (c.map fun ts => .tup [a,b,.tup ts]) μ:=by
 rw [dTup_is,dArgs_cons,h1,R.bind_ok,dArgs_cons,h2,R.bind_ok,dArgs_cons,h3]
 cases c with
 | none => rfl
 | some ts => rfl
theorem sw_ok (t:Str) (h:t.length ≤ 2000000):∀ v ∈ Txt.split t sc,v.length ≤ 2000000:=fun v hv => Nat.le_trans (split_wordS hv).1 h
theorem cnd_ok (x0 x2 x3:Option SV) (L:List T) (μ:Store):dOr (dBin fLt (dLen (dVar 1)) (dC (.int 2))) (dBin fGt (dLen (dVar 1)) (dBin fAdd (dC (.int 2)) (dC (.int 24)))) [x0,some (.val (.lst L)),x2,x3] μ = .ok (.val (.bl (decide (L.length < 2) || decide (26 < L.length)))) μ:=by
 by_cases z:L.length < 2
 ·have z1:decide ((L.length:Int) < 2) = true:=decide_eq_true (by lia)
  rw [decide_eq_true z,Bool.true_or]
  simp (disch:=first | decide | omega | assumption) only [stw,stc,Nat.reduceAdd,Nat.reduceSub,z1]
 ·have z1:decide ((L.length:Int) < 2) = false:=decide_eq_false (by lia)
  rw [decide_eq_false z,Bool.false_or]
  simp (disch:=first | decide | omega | assumption) only [stw,stc,Nat.reduceAdd,Nat.reduceSub,z1]
  congr 4
  exact propext (by lia)
theorem rtX_ok {t:Str} (h:t.length ≤ 2000000) (μ:Store):fX_read_table [.val (.str t)] μ = res (tabV t) μ:=by
 obtain ⟨a,r,hs,_⟩:=split_specS t sc
 have hS:splitT t (.str "; ") = some (.lst ((Txt.split t sc).map T.str)):=splitT_of h sc1
 have hl:(Txt.split t sc).length ≤ t.length + 1:=split_lenS sc1 t
 have hwl:=sw_ok t h
 unfold tabV
 rw [hs] at hS hl hwl ⊢
 have e1:dMeth splitT (dVar 0) (dC (.str "; ")) [some (.val (.str t)),none,none,none] μ = .ok (.val (.lst ((a :: r).map T.str))) μ:=dMeth_at (by simp (disch:=first | decide | omega | assumption) only [stw,stc,Nat.reduceAdd,Nat.reduceSub]) (by simp (disch:=first | decide | omega | assumption) only [stw,stc,Nat.reduceAdd,Nat.reduceSub]) hS
 unfold fX_read_table bX_read_table
 generalize dMeth splitT (dVar 0) (dC (.str "; ")) = D0 at e1
 have hlen:=cnd_ok (some (.val (.str t))) none none ((a :: r).map T.str) μ
 rw [List.length_map,List.length_cons] at hlen
 generalize dOr (dBin fLt (dLen (dVar 1)) (dC (.int 2))) (dBin fGt (dLen (dVar 1)) (dBin fAdd (dC (.int 2)) (dC (.int 24)))) = D4 at hlen
 cases r with
 | nil =>
  rw [show (decide (([]:List Str).length + 1 < 2) || decide (26 < ([]:List Str).length + 1)) = true from rfl] at hlen
  rw [List.map_cons,List.map_nil] at e1 hlen
  show _ = res none μ
  rw [res_none]
  simp (disch:=first | decide | omega | assumption) only [stw,stc,Nat.reduceAdd,Nat.reduceSub,dIs_is,isS_val,isT_str,isK,e1,hlen,sRaise_is,seq_err,endV_err,List.take_length]
 | cons b rs =>
  rw [decide_eq_false (show ¬ (b :: rs).length + 1 < 2 by simp only [List.length_cons]; lia),Bool.false_or] at hlen
  rw [List.map_cons,List.map_cons] at e1 hlen
  show _ = res (if rs.length ≤ 24 ∧ (rdp a).isSome = true ∧ (rng b 1 12).isSome = true then _ else none) μ
  by_cases c1:rs.length ≤ 24
  ·rw [decide_eq_false (show ¬ 26 < (b :: rs).length + 1 by simp only [List.length_cons]; lia)] at hlen
   have f1:=rpX_ok a (hwl a List.mem_cons_self) μ
   have f2:=rnX_ok b (hwl b (List.mem_cons_of_mem _ List.mem_cons_self)) 1 12 μ
   by_cases c2:(rdp a).isSome = true
   ·rw [rdp_is c2,res_some] at f1
    by_cases c3:(rng b 1 12).isSome = true
    ·rw [rng_is c3,res_some] at f2
     rw [if_pos ⟨c1,c2,c3⟩]
     have k2:=cut2 (.str a) (.str b) (rs.map T.str)
     have i1:iSeq (dCut (dVar 1) (some (dC (.int 2))) none) [some (.val (.str t)),some (.val (.lst (.str a :: .str b :: rs.map T.str))),some (.val (.int (val a))),some (.val (.int (val b)))] μ = .ok ⟨rs.map T.str,fun μ' => rd μ' (.val (.lst (rs.map T.str))) = rd μ (.val (.lst (rs.map T.str)))⟩ μ:=by
      simp (disch:=first | decide | omega | assumption) only [stw,stc,Nat.reduceAdd,Nat.reduceSub,k2]
     have i2:=compX_gen (same:=fun μ' => rd μ' (.val (.lst (rs.map T.str))) = rd μ (.val (.lst (rs.map T.str)))) (μ:=μ) rfl (rowV (val a) (val b)) (dCall fX_read_row [(dVar 1),(dVar 2),(dVar 0)]) [some (.val (.int (val a))),some (.val (.int (val b)))] rs fun v hv => by
      have:=rrX_ok (val a) (val b) (hwl v (List.mem_cons_of_mem _ (List.mem_cons_of_mem _ hv))) μ
      simp (disch:=first | decide | omega | assumption) only [stw,stc,Nat.reduceAdd,Nat.reduceSub,this]
     have e3:=tupX (mp:=[none,some 2,some 3]) i1 (by show (rs.map T.str).length ≤ szL; rw [List.length_map]; unfold szL; lia) i2
     have e4:=dTup3 (A:=dVar 2) (B:=dVar 3) (a:=.int (val a)) (b:=.int (val b)) (by simp (disch:=first | decide | omega | assumption) only [stw,stc,Nat.reduceAdd,Nat.reduceSub]) (by simp (disch:=first | decide | omega | assumption) only [stw,stc,Nat.reduceAdd,Nat.reduceSub]) e3
     have e5:=res_seq _ _ _ _ e4
     generalize sRet (dTup [(dVar 2),(dVar 3),(dUn fTuple (dCompX (iSeq (dCut (dVar 1) (some (dC (.int 2))) none)) [none,some 2,some 3] (bName 0) (dCall fX_read_row [(dVar 1),(dVar 2),(dVar 0)])))]) = D1 at e5
     simp (disch:=first | decide | omega | assumption) only [stw,stc,Nat.reduceAdd,Nat.reduceSub,dIs_is,isS_val,isT_str,isK,e1,hlen,f1,f2,e5]
    ·rw [non_is c3,res_none] at f2
     rw [if_neg (fun q => c3 q.2.2),res_none]
     simp (disch:=first | decide | omega | assumption) only [stw,stc,Nat.reduceAdd,Nat.reduceSub,dIs_is,isS_val,isT_str,isK,e1,hlen,f1,f2,R.bind_err,toS_err,seq_err,endV_err,List.take_length]
   ·rw [non_is c2,res_none] at f1
    rw [if_neg (fun q => c2 q.2.1),res_none]
    simp (disch:=first | decide | omega | assumption) only [stw,stc,Nat.reduceAdd,Nat.reduceSub,dIs_is,isS_val,isT_str,isK,e1,hlen,f1,R.bind_err,toS_err,seq_err,endV_err,List.take_length]
  ·rw [decide_eq_true (show 26 < (b :: rs).length + 1 by simp only [List.length_cons]; lia)] at hlen
   rw [if_neg (fun q => c1 q.1),res_none]
   simp (disch:=first | decide | omega | assumption) only [stw,stc,Nat.reduceAdd,Nat.reduceSub,dIs_is,isS_val,isT_str,isK,e1,hlen,sRaise_is,seq_err,endV_err,List.take_length]
theorem rt_ok {t:Str} (h:t.length ≤ 2000000) {u:T} (hu:tabV t = some u) (μ:Store):fV_read_table [.val (.str t)] μ = .ok (.val u) μ:=by
 obtain ⟨a,r,hs,_⟩:=split_specS t sc
 have hS:splitT t (.str "; ") = some (.lst ((Txt.split t sc).map T.str)):=splitT_of h sc1
 have hwl:=sw_ok t h
 unfold tabV at hu
 rw [hs] at hS hwl hu
 cases r with
 | nil => cases hu
 | cons b rs =>
  have hu:(if rs.length ≤ 24 ∧ (rdp a).isSome = true ∧ (rng b 1 12).isSome = true then (trav (rowV (val a) (val b)) rs).map fun ts => T.tup [.int (val a),.int (val b),.tup ts] else none) = some u:=hu
  by_cases c:rs.length ≤ 24 ∧ (rdp a).isSome = true ∧ (rng b 1 12).isSome = true
  ·rw [if_pos c] at hu
   obtain ⟨c1,c2,c3⟩:=c
   obtain ⟨ts,hts,rfl⟩:=Option.map_eq_some_iff.mp hu
   rw [List.map_cons,List.map_cons] at hS
   have e1:dMeth splitT (dVar 0) (dC (.str "; ")) [some (.val (.str t)),none,none,none] μ = .ok (.val (.lst (.str a :: .str b :: rs.map T.str))) μ:=dMeth_at (by simp (disch:=first | decide | omega | assumption) only [stw,stc,Nat.reduceAdd,Nat.reduceSub]) (by simp (disch:=first | decide | omega | assumption) only [stw,stc,Nat.reduceAdd,Nat.reduceSub]) hS
   have hlen:=cnd_ok (some (.val (.str t))) none none (.str a :: .str b :: rs.map T.str) μ
   rw [List.length_cons,List.length_cons,List.length_map,decide_eq_false (show ¬ rs.length + 1 + 1 < 2 by lia),Bool.false_or,decide_eq_false (show ¬ 26 < rs.length + 1 + 1 by lia)] at hlen
   have f1:=rp_ok (hwl a List.mem_cons_self) (rdp_is c2) μ
   have f2:=rn_ok (hwl b (List.mem_cons_of_mem _ List.mem_cons_self)) (rng_is c3) μ
   have k2:=cut2 (.str a) (.str b) (rs.map T.str)
   have hz:(rs.map T.str).length ≤ szL:=by rw [List.length_map]; unfold szL; lia
   have i2:=compL_gen (same:=fun _ => True) (μ:=μ) trivial (rowV (val a) (val b)) (dCall (cal fV_read_row) [(dVar 1),(dVar 2),(dVar 0)]) [some (.val (.int (val a))),some (.val (.int (val b)))] rs (fun v hv r hr => by
    have:=rr_ok (hwl v (List.mem_cons_of_mem _ (List.mem_cons_of_mem _ hv))) hr μ
    simp (disch:=first | decide | omega | assumption) only [stw,stc,Nat.reduceAdd,Nat.reduceSub,this]) hts
   have e3:dComp (iSeq (dCut (dVar 1) (some (dC (.int 2))) none)) [none,some 2,some 3] (bName 0) (dC (.bl true)) (dCall (cal fV_read_row) [(dVar 1),(dVar 2),(dVar 0)]) [some (.val (.str t)),some (.val (.lst (.str a :: .str b :: rs.map T.str))),some (.val (.int (val a))),some (.val (.int (val b)))] μ = .ok (.val (.lst ts)) μ:=by
    generalize dCall (cal fV_read_row) [(dVar 1),(dVar 2),(dVar 0)] = D2 at i2
    simp (disch:=first | decide | omega | assumption) only [stw,stc,Nat.reduceAdd,Nat.reduceSub,k2]
    rw [i2,R.calm_ok,R.bind_ok,if_pos hz]
   unfold fV_read_table b_read_table
   generalize dOr (dBin fLt (dLen (dVar 1)) (dC (.int 2))) (dBin fGt (dLen (dVar 1)) (dBin fAdd (dC (.int 2)) (dC (.int 24)))) = D4 at hlen
   generalize dMeth splitT (dVar 0) (dC (.str "; ")) = D0 at e1
   generalize dComp (iSeq (dCut (dVar 1) (some (dC (.int 2))) none)) [none,some 2,some 3] (bName 0) (dC (.bl true)) (dCall (cal fV_read_row) [(dVar 1),(dVar 2),(dVar 0)]) = D3 at e3
   simp (disch:=first | decide | omega | assumption) only [stw,stc,Nat.reduceAdd,Nat.reduceSub,dIs_is,isS_val,isT_str,isK,e1,hlen,f1,f2,e3]
  ·rw [if_neg c] at hu; cases hu
theorem rtX_bad {t:T} (h:isT .str t = some (.bl false)) (μ:Store):fX_read_table [.val t] μ = res none μ:=by
 unfold fX_read_table bX_read_table
 rw [res_none]
 simp (disch:=first | decide | omega | assumption) only [stw,stc,Nat.reduceAdd,Nat.reduceSub,dIs_is,isS_val,h,sRaise_is,seq_err,endV_err,List.take_length]
theorem dIsG_at {f:Str → Option Bool} {d:D} {e:Slots} {μ μ1:Store} {n:Str} {b:Bool} (h:d e μ = .ok (.val (.exc n none)) μ1) (hf:f n = some b):dIsG f d e μ = .ok (.val (.bl b)) μ1:=by
 unfold dIsG
 rw [h]
 show (match f n with | some b => R.ok (SV.val (T.bl b)) μ1 | none => R.bad) = _
 rw [hf]
theorem try_rt {b:DS} {g:Str → DS} {e:Slots} {μ μ':Store} {x:SV} (h:b e μ = .rt x μ'):sTry b g e μ = .rt x μ':=by unfold sTry; rw [h]
theorem try_err {b:DS} {g:Str → DS} {e e':Slots} {μ μ':Store} {n:Str} (h:b e μ = .err (.exc n none) e' μ'):sTry b g e μ = g n e' μ':=by unfold sTry; rw [h]
theorem as_rt {i:Nat} {n:Str} {d:DS} {e:Slots} {μ μ':Store} {x:SV} (h:d (e.set i (some (.val (.exc n none)))) μ = .rt x μ'):sAs i n d e μ = .rt x μ':=by unfold sAs; rw [calm_rt h]; rfl
noncomputable def told:Option T → T
 | some t => t
 | none => .str "none"
theorem read_of {t:T} {μ:Store} {r:Option T} (h:fX_read_table [.val t] μ = res r μ) (b:Bool) :
  fV__law_read [.val t,.val (.bl b)] μ = .ok (.val (told r)) μ:=by
 have go:∀ g:Str → DS,(r = none → g "NoText" [some (.val t),some (.val (.bl b)),none] μ = .rt (.val (.str "none")) μ) → sTry (sRet (dCall fX_read_table [(dVar 0)])) g [some (.val t),some (.val (.bl b)),none] μ = .rt (.val (told r)) μ:=fun g hg => by
  cases r with
  | some u =>
   rw [res_some] at h
   show _ = RS.rt (.val u) μ
   exact try_rt (by simp (disch:=first | decide | omega | assumption) only [stw,stc,Nat.reduceAdd,Nat.reduceSub,h])
  | none =>
   rw [res_none] at h
   rw [try_err (n:="NoText") (e':=[some (.val t),some (.val (.bl b)),none]) (μ':=μ) (by simp (disch:=first | decide | omega | assumption) only [stw,stc,Nat.reduceAdd,Nat.reduceSub,h,toS_err]),hg rfl]; rfl
 have k1:∀ (f:Str → Option Bool) (x:Bool),f "NoText" = some x → dIsG f (dVar 2) [some (.val t),some (.val (.bl b)),some (.val (.exc "NoText" none))] μ = .ok (.val (.bl x)) μ:=fun f x hf => dIsG_at (by simp (disch:=first | decide | omega | assumption) only [stw,stc,Nat.reduceAdd,Nat.reduceSub]) hf
 have g1:=go (fun n => if n = "NoText" then (sAs 2 "NoText" (sRet (dIdx (dLst [(dC (.str "other")),(dC (.str "none"))]) (dUn fInt (dAnd (dIsG (fun n => if n = "NoText" then some true else none) (dVar 2)) (dNot (dIsG (fun n => if n = "NoText" then some false else none) (dVar 2)))))))) else sBad) (fun _ => by
  rw [if_pos rfl]
  refine as_rt ?_
  have a1:=k1 (fun n => if n = "NoText" then some true else none) true rfl
  have a2:=k1 (fun n => if n = "NoText" then some false else none) false rfl
  generalize dIsG (fun n => if n = "NoText" then some true else none) (dVar 2) = D1 at a1
  generalize dIsG (fun n => if n = "NoText" then some false else none) (dVar 2) = D2 at a2
  simp (disch:=first | decide | omega | assumption) only [stw,stc,Nat.reduceAdd,Nat.reduceSub,a1,a2])
 have g2:=go (fun n => if n = "NoText" then (sAs 2 "NoText" (sRet (dIdx (dLst [(dC (.str "other")),(dC (.str "none"))]) (dUn fInt (dIsG (fun n => if n = "NoText" then some true else none) (dVar 2)))))) else sBad) (fun _ => by
  rw [if_pos rfl]
  refine as_rt ?_
  have a1:=k1 (fun n => if n = "NoText" then some true else none) true rfl
  generalize dIsG (fun n => if n = "NoText" then some true else none) (dVar 2) = D1 at a1
  simp (disch:=first | decide | omega | assumption) only [stw,stc,Nat.reduceAdd,Nat.reduceSub,a1])
 unfold fV__law_read b__law_read
 generalize sTry (sRet (dCall fX_read_table [(dVar 0)])) (fun n => if n = "NoText" then (sAs 2 "NoText" (sRet (dIdx (dLst [(dC (.str "other")),(dC (.str "none"))]) (dUn fInt (dAnd (dIsG (fun n => if n = "NoText" then some true else none) (dVar 2)) (dNot (dIsG (fun n => if n = "NoText" then some false else none) (dVar 2)))))))) else sBad) = D1 at g1
 generalize sTry (sRet (dCall fX_read_table [(dVar 0)])) (fun n => if n = "NoText" then (sAs 2 "NoText" (sRet (dIdx (dLst [(dC (.str "other")),(dC (.str "none"))]) (dUn fInt (dIsG (fun n => if n = "NoText" then some true else none) (dVar 2)))))) else sBad) = D2 at g2
 cases b with
 | true => simp (disch:=first | decide | omega | assumption) only [stw,stc,Nat.reduceAdd,Nat.reduceSub,g1]
 | false => simp (disch:=first | decide | omega | assumption) only [stw,stc,Nat.reduceAdd,Nat.reduceSub,g2]
end Fw.k91
namespace Fw.k91
open PySem Fw Fw.H Fw.E Fw.U
theorem okT_str (n:Nat) (x:Str):okT n (.str x) = x.cps.all (· < 1114112):=by unfold okT; rfl
theorem ok_word {n:Nat} {x:Str} (h:∀ c ∈ x.cps.toList,c < 1114112):okT n (.str x) = true:=by
 rw [okT_str,← Array.all_toList,List.all_eq_true]
 intro c hc
 exact decide_eq_true (h c hc)
theorem in_words {ws:List Str} {w:Str} (hw:∀ c ∈ w.cps.toList,c < 1114112) (hs:∀ v ∈ ws,∀ c ∈ v.cps.toList,c < 1114112):fNinA (.str w) (.lst (ws.map T.str)) = some (.bl (!decide (w ∈ ws))):=by
 have h2:okT 100 (.lst (ws.map T.str)) = true:=by
  rw [okT_lst]
  refine (okTs_iff 99 _).mpr fun x hx => ?_
  obtain ⟨y,hy,rfl⟩:=List.mem_map.mp hx
  exact ok_word (hs y hy)
 rw [fNinA_ok (ok_word hw) h2]
 have:inT (.str w) (ws.map T.str) = decide (w ∈ ws):=by
  unfold inT
  rw [List.any_map]
  have e:((fun y => eqT y (.str w)) ∘ T.str) = fun y:Str => y == w:=by
   funext y
   show eqT (.str y) (.str w) = _
   unfold eqT; rfl
  rw [e]
  by_cases z:w ∈ ws
  ·rw [decide_eq_true z]
   exact List.any_eq_true.mpr ⟨w,z,by simp⟩
  ·rw [decide_eq_false z]
   rw [List.any_eq_false]
   intro y hy q
   exact z (eq_of_beq q ▸ hy)
 rw [this]
theorem strs_ok (e:Slots) (μ:Store):dComp (iRange1 (dC (.int 100))) [none] (bName 0) (dC (.bl true)) (dUn fStr (dVar 0)) e μ = .ok (.val (.lst ((nstrs 100).map T.str))) μ:=by
 have hr:rngOk 100 = true:=rngOk_of (by lia) (by lia)
 have hc:=compL_ofA (same:=fun _ => True) (b:=bName 0) (d:=dUn fStr (dVar 0)) (e:=[none]) (μ:=μ) (fun k:Nat => T.int (k:Int)) (fun k => .str (Str.ofString (toString (k:Int)))) trivial (List.range 100) fun k hk => by
  have hk:=List.mem_range.mp hk
  have e1:fStr (.int (k:Int)) = some (.str (Str.ofString (toString (k:Int)))):=by
   show (if (k:Int).natAbs.log2 < 1920 then some (T.str (toString (k:Int))) else none) = _
   have:(k:Int).natAbs.log2 < 1920:=by
    rw [Int.natAbs_natCast]
    exact Nat.lt_of_le_of_lt (Nat.log2_le_self k) (by lia)
   rw [if_pos this]
  refine ⟨_,rfl,?_⟩
  simp (disch:=first | decide | omega | assumption) only [stw,stc,Nat.reduceAdd,Nat.reduceSub,e1]
 have hi:intsT 0 (100:Int).toNat = (List.range 100).map fun k:Nat => T.int (k:Int):=by
  rw [intsT_eq]
  unfold irange
  rw [List.map_map]
  simp only [Function.comp_def,Int.zero_add]
  rfl
 have hz:((List.range 100).map fun k:Nat => T.int (k:Int)).length ≤ szL:=by rw [List.length_map,List.length_range]; unfold szL; lia
 have hn:(nstrs 100).map T.str = (List.range 100).map fun k:Nat => T.str (Str.ofString (toString (k:Int))):=by
  rw [nstrs,List.map_map]; rfl
 generalize List.range 100 = L at *
 simp (disch:=first | decide | omega | assumption) only [stw,stc,Nat.reduceAdd,Nat.reduceSub,hr]
 rw [hi,hc,R.calm_ok,R.bind_ok]
 rw [if_pos hz,hn]
noncomputable def ln (w:Str):T:=if num w = true ∧ val w < 100 then .int (val w) else .non
theorem num_lo {w:Str} (h:num w = true):∀ c ∈ w.cps.toList,c < 1114112:=fun c hc => by
 have:=dgs_all (num_parts h).2.2.2 c hc
 lia
theorem number_ok {w:Str} (hw:∀ c ∈ tl w,c < 1114112) (μ:Store):fV__law_number [.val (.str w)] μ = .ok (.val (ln w)) μ:=by
 have h1:=strs_ok [some (.val (.str w))] μ
 have h2:=in_words (ws:=nstrs 100) hw fun v hv => num_lo ((mem_strsH v).mp hv).1
 unfold fV__law_number b__law_number ln
 generalize dComp (iRange1 (dC (.int 100))) [none] (bName 0) (dC (.bl true)) (dUn fStr (dVar 0)) = D at h1
 by_cases q:num w = true ∧ val w < 100
 ·rw [decide_eq_true ((mem_strsH w).mpr q)] at h2
  rw [if_pos q]
  simp (disch:=first | decide | omega | assumption) only [stw,stc,Nat.reduceAdd,Nat.reduceSub,h1,h2,int_of_num q.1]
 ·rw [decide_eq_false (fun y => q ((mem_strsH w).mp y))] at h2
  rw [if_neg q]
  simp (disch:=first | decide | omega | assumption) only [stw,stc,Nat.reduceAdd,Nat.reduceSub,h1,h2]
noncomputable def cnd (p:Int) (v:Str):Bool:=num v && decide ((val v:Int) < p)
theorem rng_cnd {p:Int} (hp:p ≤ 97) (v:Str):rng v 0 (p - 1) = if cnd p v = true then some (ln v) else none:=by
 unfold rng cnd ln
 by_cases h:num v = true
 ·rw [h,Bool.true_and]
  by_cases z:(val v:Int) < p
  ·rw [if_pos ⟨rfl,by lia,by lia⟩,if_pos (decide_eq_true z),if_pos ⟨rfl,by lia⟩]
  ·rw [if_neg (fun q => z (by have:=q.2.2; lia)),if_neg (by rw [decide_eq_false z]; simp)]
 ·rw [if_neg (fun q => h q.1),if_neg (by simp [h])]
theorem trav_cnd {p:Int} (hp:p ≤ 97):∀ ws:List Str,trav (fun v => rng v 0 (p - 1)) ws = if ws.all (cnd p) = true then some (ws.map ln) else none
 | [] => rfl
 | w :: ws => by
  unfold trav
  rw [rng_cnd hp w,trav_cnd hp ws,List.all_cons]
  cases cnd p w with
  | false => rfl
  | true =>
   cases ws.all (cnd p) with
   | false => rfl
   | true => rfl
noncomputable def sgn (c:Nat):Str:=⟨#[c]⟩
theorem signs_abc:fSigns (.str "abcdefghij") = some (.lst ((lts.map sgn).map T.str)):=by
 show (if ("abcdefghij":Str).length ≤ szL then some (T.lst ((tl "abcdefghij").map fun c => .str ⟨#[c]⟩)) else none) = _
 rw [if_pos (by decide +kernel),tl_abc,List.map_map]; rfl
theorem hnd_none {x:Str} (h:x ∉ lts.map sgn):hnd x = none:=by
 unfold hnd
 split
 ·rename_i c hc
  rw [if_neg]
  intro q
  exact h (List.mem_map.mpr ⟨c,q,(one_sign hc).symm⟩)
 ·rfl
theorem hnd_some {x:Str} (h:x ∈ lts.map sgn):∃ c,c ∈ lts ∧ x = ⟨#[c]⟩ ∧ hnd x = some (.int ((c:Int) - 97)):=by
 obtain ⟨c,hc,rfl⟩:=List.mem_map.mp h
 refine ⟨c,hc,rfl,?_⟩
 show (if c ∈ lts then some (T.int ((c:Int) - 97)) else none) = _
 rw [if_pos hc]
theorem rowV_of {p w:Int} {t x:Str} {ws:List Str} (hs:Txt.split t " " = x :: ws):rowV p w t = if (ws.length:Int) = w then pairV (hnd x) (trav (fun v => rng v 0 (p - 1)) ws) else none:=by
 unfold rowV
 rw [hs]
noncomputable def dueB:DS:=(sSeq (sSet 6 (dMeth splitT (dVar 5) (dC (.str " "))))
 (sSeq (sSet 7 (dComp (iSeq (dCut (dVar 6) (some (dC (.int 1))) none)) [none] (bName 0) (dC (.bl true)) (dCall (cal fV__law_number) [(dVar 0)])))
 (sSeq (sIf (dOr (dBin fNinA (dIdx (dVar 6) (dC (.int 0))) (dUn fSigns (dC (.str "abcdefghij")))) (dBin fNe (dLen (dVar 7)) (dVar 3))) (sRet (dC (.str "none"))) sNil)
 (sSeq (sIf (dNot (dUn fAll (dComp (iSeq (dVar 7)) [none,some 2] (bName 0) (dC (.bl true)) (dAnd (dUn notNon (dVar 0)) (dBin fLt (dVar 0) (dVar 1)))))) (sRet (dC (.str "none"))) sNil)
 (sAppend (dVar 4) (dTup [(dMeth indexT (dC (.str "abcdefghij")) (dIdx (dVar 6) (dC (.int 0)))),(dUn fTuple (dVar 7))]))))))
theorem dueB_ok {p w:Int} (hp:p ≤ 97) (x0 x1 x6 x7:Option SV) {t:Str} (h:t.length ≤ 2000000) (ht:∀ c ∈ tl t,c < 1114112) (acc:List T) (ha:acc.length ≤ 20000) (μ:Store):∃ y6 y7,
  dueB [x0,x1,some (.val (.int p)),some (.val (.int w)),some (.cel μ.length),some (.val (.str t)),x6,x7] (μ ++ [(true,.lst acc)]) = match rowV p w t with
   | some r => .nx [x0,x1,some (.val (.int p)),some (.val (.int w)),some (.cel μ.length),some (.val (.str t)),y6,y7] (μ ++ [(true,.lst (acc ++ [r]))])
   | none => .rt (.val (.str "none")) (μ ++ [(true,.lst acc)]):=by
 obtain ⟨x,ws,hs,_⟩:=split_specS t " "
 have hS:=splitT_of h bl1
 have hl:=split_lenS bl1 t
 have hwl:∀ v ∈ x :: ws,v.length ≤ 2000000 ∧ ∀ c ∈ tl v,c < 1114112:=fun v hv => by
  rw [← hs] at hv
  exact ⟨Nat.le_trans (split_wordS hv).1 h,fun c hc => ht c ((split_wordS hv).2 c hc)⟩
 rw [rowV_of hs,trav_cnd hp]
 rw [hs] at hS hl
 rw [List.map_cons] at hS
 have hzw:ws.length ≤ szL:=by simp only [List.length_cons] at hl; unfold szL; lia
 have e1:dMeth splitT (dVar 5) (dC (.str " ")) [x0,x1,some (.val (.int p)),some (.val (.int w)),some (.cel μ.length),some (.val (.str t)),x6,x7] (μ ++ [(true,.lst acc)]) = .ok (.val (.lst (.str x :: ws.map T.str))) (μ ++ [(true,.lst acc)]):=dMeth_at (by simp (disch:=first | decide | omega | assumption) only [stw,stc,Nat.reduceAdd,Nat.reduceSub]) (by simp (disch:=first | decide | omega | assumption) only [stw,stc,Nat.reduceAdd,Nat.reduceSub]) hS
 have c1:=cut1 (.str x) (ws.map T.str)
 have i2:=compL_ofA (same:=fun _ => True) (b:=bName 0) (d:=dCall (cal fV__law_number) [(dVar 0)]) (e:=[none]) (μ:=μ ++ [(true,.lst acc)]) T.str ln trivial ws fun v hv => by
  have:=number_ok (hwl v (List.mem_cons_of_mem _ hv)).2 (μ ++ [(true,.lst acc)])
  exact ⟨_,rfl,by simp (disch:=first | decide | omega | assumption) only [stw,stc,Nat.reduceAdd,Nat.reduceSub,this]⟩
 have e2:dComp (iSeq (dCut (dVar 6) (some (dC (.int 1))) none)) [none] (bName 0) (dC (.bl true)) (dCall (cal fV__law_number) [(dVar 0)]) [x0,x1,some (.val (.int p)),some (.val (.int w)),some (.cel μ.length),some (.val (.str t)),some (.val (.lst (.str x :: ws.map T.str))),x7] (μ ++ [(true,.lst acc)]) = .ok (.val (.lst (ws.map ln))) (μ ++ [(true,.lst acc)]):=by
  generalize dCall (cal fV__law_number) [(dVar 0)] = D2 at i2
  simp (disch:=first | decide | omega | assumption) only [stw,stc,Nat.reduceAdd,Nat.reduceSub,c1]
  rw [i2,R.calm_ok,R.bind_ok,if_pos (by rw [List.length_map]; exact hzw)]
 have i3:=compL_ofA (same:=fun _ => True) (b:=bName 0) (d:=dAnd (dUn notNon (dVar 0)) (dBin fLt (dVar 0) (dVar 1))) (e:=[none,some (.val (.int p))]) (μ:=μ ++ [(true,.lst acc)]) ln (fun v => .bl (cnd p v)) trivial ws fun v hv => by
  refine ⟨_,rfl,?_⟩
  unfold ln cnd
  by_cases q:num v = true ∧ val v < 100
  ·rw [if_pos q,q.1,Bool.true_and]
   simp (disch:=first | decide | omega | assumption) only [stw,stc,Nat.reduceAdd,Nat.reduceSub]
  ·rw [if_neg q]
   have:(num v && decide ((val v:Int) < p)) = false:=by
    rw [Bool.and_eq_false_iff]
    by_cases z:num v = true
    ·exact .inr (decide_eq_false (fun y => q ⟨z,by lia⟩))
    ·exact .inl (by simpa using z)
   rw [this]
   simp (disch:=first | decide | omega | assumption) only [stw,stc,Nat.reduceAdd,Nat.reduceSub]
 have e3:dUn fAll (dComp (iSeq (dVar 7)) [none,some 2] (bName 0) (dC (.bl true)) (dAnd (dUn notNon (dVar 0)) (dBin fLt (dVar 0) (dVar 1)))) [x0,x1,some (.val (.int p)),some (.val (.int w)),some (.cel μ.length),some (.val (.str t)),some (.val (.lst (.str x :: ws.map T.str))),some (.val (.lst (ws.map ln)))] (μ ++ [(true,.lst acc)]) = .ok (.val (.bl (ws.all (cnd p)))) (μ ++ [(true,.lst acc)]):=by
  have:dComp (iSeq (dVar 7)) [none,some 2] (bName 0) (dC (.bl true)) (dAnd (dUn notNon (dVar 0)) (dBin fLt (dVar 0) (dVar 1))) [x0,x1,some (.val (.int p)),some (.val (.int w)),some (.cel μ.length),some (.val (.str t)),some (.val (.lst (.str x :: ws.map T.str))),some (.val (.lst (ws.map ln)))] (μ ++ [(true,.lst acc)]) = .ok (.val (.lst (ws.map fun v => .bl (cnd p v)))) (μ ++ [(true,.lst acc)]):=by
   generalize dAnd (dUn notNon (dVar 0)) (dBin fLt (dVar 0) (dVar 1)) = D2 at i3
   simp (disch:=first | decide | omega | assumption) only [stw,stc,Nat.reduceAdd,Nat.reduceSub]
   rw [i3,R.calm_ok,R.bind_ok,if_pos (by rw [List.length_map]; exact hzw)]
  rw [dUn_is,this,R.bind_ok,rd_val,ap1_some,fAll_map]; rfl
 have n1:=in_words (ws:=lts.map sgn) (hwl x List.mem_cons_self).2 fun v hv => by
  obtain ⟨c,hc,rfl⟩:=List.mem_map.mp hv
  intro d hd
  have:d = c:=by have:d ∈ [c]:=hd; simpa using this
  subst this
  have:∀ c ∈ lts,c < 1114112:=by decide
  exact this d hc
 have hap:∀ t:T,appendAt (.cel μ.length) t (μ ++ [(true,.lst acc)]) = some (μ ++ [(true,.lst (acc ++ [t]))]):=fun t => append_st0 μ [] acc t (by unfold szL; lia)
 have hls:lsts (.cel μ.length) (μ ++ [(true,.lst acc)]) = some ():=by unfold lsts; simp
 have sg:=signs_abc
 refine ⟨some (.val (.lst (.str x :: ws.map T.str))),some (.val (.lst (ws.map ln))),?_⟩
 unfold dueB
 generalize (dComp (iSeq (dCut (dVar 6) (some (dC (.int 1))) none)) [none] (bName 0) (dC (.bl true)) (dCall (cal fV__law_number) [(dVar 0)])) = D2 at e2
 generalize dUn fAll (dComp (iSeq (dVar 7)) [none,some 2] (bName 0) (dC (.bl true)) (dAnd (dUn notNon (dVar 0)) (dBin fLt (dVar 0) (dVar 1)))) = D3 at e3
 generalize dMeth splitT (dVar 5) (dC (.str " ")) = D1 at e1
 by_cases hx:x ∈ lts.map sgn
 ·rw [decide_eq_true hx] at n1
  obtain ⟨c,hc,rfl,hh⟩:=hnd_some hx
  rw [hh]
  generalize (lts.map sgn).map T.str = SG at *
  by_cases hw:(ws.length:Int) = w
  ·have g1:(((ws.map ln).length:Int) == w) = true:=by rw [List.length_map,beq_iff_eq]; exact hw
   rw [if_pos hw]
   cases z:ws.all (cnd p) with
   | true =>
    rw [z] at e3
    rw [if_pos rfl]
    have e5:=dMeth_at (g:=indexT) (a:=dC (.str "abcdefghij")) (b:=dIdx (dVar 6) (dC (.int 0))) (e:=[x0,x1,some (.val (.int p)),some (.val (.int w)),some (.cel μ.length),some (.val (.str t)),some (.val (.lst (.str ⟨#[c]⟩ :: ws.map T.str))),some (.val (.lst (ws.map ln)))]) (μ:=μ ++ [(true,.lst acc)]) (by simp (disch:=first | decide | omega | assumption) only [stw,stc,Nat.reduceAdd,Nat.reduceSub]) (by simp (disch:=first | decide | omega | assumption) only [stw,stc,Nat.reduceAdd,Nat.reduceSub]) (index_ok hc)
    generalize dMeth indexT (dC (.str "abcdefghij")) (dIdx (dVar 6) (dC (.int 0))) = D5 at e5
    simp (disch:=first | decide | omega | assumption) only [stw,stc,Nat.reduceAdd,Nat.reduceSub,e1,e2,sg,n1,g1,e3,hls,e5,hap]
    rfl
   | false =>
    rw [z] at e3
    rw [if_neg Bool.false_ne_true]
    simp (disch:=first | decide | omega | assumption) only [stw,stc,Nat.reduceAdd,Nat.reduceSub,e1,e2,sg,n1,g1,e3]
    rfl
  ·have g1:(((ws.map ln).length:Int) == w) = false:=by rw [List.length_map,beq_eq_false_iff_ne]; exact hw
   rw [if_neg hw]
   simp (disch:=first | decide | omega | assumption) only [stw,stc,Nat.reduceAdd,Nat.reduceSub,e1,e2,sg,n1,g1]
 ·rw [decide_eq_false hx] at n1
  rw [hnd_none hx]
  have:(if (ws.length:Int) = w then pairV none (if ws.all (cnd p) = true then some (ws.map ln) else none) else none) = none:=by
   split
   ·rfl
   ·rfl
  rw [this]
  generalize (lts.map sgn).map T.str = SG at *
  simp (disch:=first | decide | omega | assumption) only [stw,stc,Nat.reduceAdd,Nat.reduceSub,e1,e2,sg,n1]
theorem due_loop {p w:Int} (hp:p ≤ 97) (x0 x1:Option SV) (same:Store → Prop) (hs:∀ μ,same μ) (μ:Store):∀ (ws:List Str) (acc:List T) (x5 x6 x7:Option SV),(∀ v ∈ ws,v.length ≤ 2000000 ∧ ∀ c ∈ tl v,c < 1114112) → acc.length + ws.length ≤ 20000 →
  ∃ y5 y6 y7 acc',forL same (bName 5) dueB (ws.map T.str) [x0,x1,some (.val (.int p)),some (.val (.int w)),some (.cel μ.length),x5,x6,x7] (μ ++ [(true,.lst acc)]) = match trav (rowV p w) ws with
   | some ts => .nx [x0,x1,some (.val (.int p)),some (.val (.int w)),some (.cel μ.length),y5,y6,y7] (μ ++ [(true,.lst (acc ++ ts))])
   | none => .rt (.val (.str "none")) (μ ++ [(true,.lst acc')])
 | [],acc,x5,x6,x7,_,_ => ⟨x5,x6,x7,acc,by
  rw [List.map_nil]
  unfold forL
  rw [if_pos (hs _)]
  show _ = RS.nx _ (μ ++ [(true,.lst (acc ++ []))])
  rw [List.append_nil]⟩
 | v :: ws,acc,x5,x6,x7,hw,hl => by
  obtain ⟨y6,y7,hb⟩:=dueB_ok (w:=w) hp x0 x1 x6 x7 (hw v List.mem_cons_self).1 (hw v List.mem_cons_self).2 acc (by simp at hl; lia) μ
  rw [List.map_cons]
  unfold forL
  rw [if_pos (hs _)]
  simp only [bName_is,List.set_cons_succ,List.set_cons_zero]
  rw [hb]
  unfold trav
  cases h1:rowV p w v with
  | none => exact ⟨none,none,none,acc,rfl⟩
  | some t =>
   obtain ⟨z5,z6,z7,acc',ih⟩:=due_loop (w:=w) hp x0 x1 same hs μ ws (acc ++ [t]) (some (.val (.str v))) y6 y7 (fun x hx => hw x (List.mem_cons_of_mem _ hx)) (by simp at hl ⊢; lia)
   refine ⟨z5,z6,z7,acc',?_⟩
   show forL same (bName 5) dueB (ws.map T.str) _ _ = _
   rw [ih]
   cases trav (rowV p w) ws with
   | none => rfl
   | some ts =>
    show RS.nx _ (μ ++ [(true,.lst (acc ++ [t] ++ ts))]) = RS.nx _ (μ ++ [(true,.lst (acc ++ (t :: ts)))])
    rw [List.append_assoc]; rfl
end Fw.k91
namespace Fw.k91
open PySem Fw Fw.H Fw.E Fw.U
noncomputable def dvs (x:Nat):List Int:=(irange 2 ((x:Int) - 2).toNat).filter fun k => (x:Int) % k == 0
theorem prm_dvs:∀ x ∈ List.range 100,(decide ((x:Int) < 2) || !(dvs x).isEmpty) = !prm x:=by decide +kernel
theorem rdp_non {a:Str} (h:¬ (num a = true ∧ val a < 100)):rdp a = none:=by
 unfold rdp
 rw [if_neg]
 intro q
 have:val a ≤ 97:=by
  have:=q.2
  unfold prm at this
  simp only [Bool.and_eq_true,decide_eq_true_eq] at this
  exact this.1.2
 exact h ⟨q.1,by lia⟩
theorem rng_non {a:Str} (h:¬ (num a = true ∧ val a < 100)):rng a 1 12 = none:=by
 unfold rng
 rw [if_neg]
 intro q
 exact h ⟨q.1,by have:=q.2.2; lia⟩
theorem rdp_some {a:Str} (h:num a = true):(rdp a).isSome = prm (val a):=by
 unfold rdp
 rw [h]
 cases prm (val a) with
 | true => rfl
 | false => rfl
theorem rng_some {a:Str} (h:num a = true):(rng a 1 12).isSome = (decide ((1:Int) ≤ val a) && decide ((val a:Int) ≤ 12)):=by
 unfold rng
 rw [h,← Bool.decide_and]
 by_cases z:(1:Int) ≤ val a ∧ (val a:Int) ≤ 12
 ·rw [if_pos ⟨rfl,z⟩,decide_eq_true z]; rfl
 ·rw [if_neg (fun q => z q.2),decide_eq_false z]; rfl
noncomputable def c4:D:=(dOr (dUn isNon (dVar 2)) (dOr (dBin fLt (dVar 2) (dC (.int 2))) (dBin fNe (dComp (iRange2 (dC (.int 2)) (dVar 2)) [none,some 2] (bName 0) (dBin fEq (dBin fMod (dVar 1) (dVar 0)) (dC (.int 0))) (dVar 0)) (dLst []))))
noncomputable def c5:D:=(dOr (dUn isNon (dVar 3)) (dOr (dNot (dChain fLe fLe (dC (.int 1)) (dVar 3) (dC (.int 12)))) (dBin fGt (dLen (dVar 1)) (dC (.int 26)))))
theorem c4_ok (a:Str) (x0 x1 x3 x4 x5 x6 x7:Option SV) (μ:Store):c4 [x0,x1,some (.val (ln a)),x3,x4,x5,x6,x7] μ = .ok (.val (.bl (!(rdp a).isSome))) μ:=by
 unfold c4 ln
 by_cases q:num a = true ∧ val a < 100
 ·rw [if_pos q,rdp_some q.1,← prm_dvs (val a) (List.mem_range.mpr q.2)]
  generalize val a = x at q
  have hx:=q.2
  by_cases z:(x:Int) < 2
  ·rw [decide_eq_true z,Bool.true_or]
   have z1:decide ((x:Int) < 2) = true:=decide_eq_true z
   simp (disch:=first | decide | omega | assumption) only [stw,stc,Nat.reduceAdd,Nat.reduceSub,isNon_int,z1]
  ·rw [decide_eq_false z,Bool.false_or]
   have z1:decide ((x:Int) < 2) = false:=decide_eq_false z
   have hr:rngOk (x:Int) = true:=rngOk_of (by lia) (by lia)
   have hr2:rngOk 2 = true:=rngOk_of (by lia) (by lia)
   have hc:=compL_ints (same:=fun _ => True) (b:=bName 0) (c:=dBin fEq (dBin fMod (dVar 1) (dVar 0)) (dC (.int 0))) (d:=dVar 0) (e:=[none,some (.val (.int x))]) (μ:=μ) (fun k => (x:Int) % k == 0) T.int trivial (irange 2 ((x:Int) - 2).toNat) fun k hk => by
    rw [mem_irange] at hk
    have h0:0 < k:=by lia
    exact ⟨_,rfl,by simp (disch:=first | decide | omega | assumption) only [stw,stc,Nat.reduceAdd,Nat.reduceSub],fun _ => by simp (disch:=first | decide | omega | assumption) only [stw,stc,Nat.reduceAdd,Nat.reduceSub]⟩
   have e1:dComp (iRange2 (dC (.int 2)) (dVar 2)) [none,some 2] (bName 0) (dBin fEq (dBin fMod (dVar 1) (dVar 0)) (dC (.int 0))) (dVar 0) [x0,x1,some (.val (.int x)),x3,x4,x5,x6,x7] μ = .ok (.val (.lst ((dvs x).map T.int))) μ:=by
    simp (disch:=omega) only [stw,stc,isNon_int,hr,hr2]
    rw [intsT_eq,Bool.and_self,if_pos rfl,R.bind_ok,hc,R.calm_ok,R.bind_ok,if_pos (by rw [List.length_map,irange_length]; unfold szL; lia)]
    rfl
   generalize dComp (iRange2 (dC (.int 2)) (dVar 2)) [none,some 2] (bName 0) (dBin fEq (dBin fMod (dVar 1) (dVar 0)) (dC (.int 0))) (dVar 0) = D at e1
   have e2:fNe (.lst ((dvs x).map T.int)) (.lst []) = some (.bl (!(dvs x).isEmpty)):=by
    have:=fNe_ints (dvs x) []
    rw [List.map_nil] at this
    rw [this]
    cases dvs x <;> rfl
   simp (disch:=first | decide | omega | assumption) only [stw,stc,Nat.reduceAdd,Nat.reduceSub,isNon_int,z1,e1,e2]
 ·rw [if_neg q,rdp_non q]
  simp (disch:=first | decide | omega | assumption) only [stw,stc,Nat.reduceAdd,Nat.reduceSub,isNon_non]
  rfl
theorem c5_ok (b:Str) (x0 x2 x4 x5 x6 x7:Option SV) (L:List T) (μ:Store):c5 [x0,some (.val (.lst L)),x2,some (.val (ln b)),x4,x5,x6,x7] μ = .ok (.val (.bl (!(rng b 1 12).isSome || decide (26 < L.length)))) μ:=by
 unfold c5 ln
 by_cases q:num b = true ∧ val b < 100
 ·rw [if_pos q,rng_some q.1]
  generalize val b = x at q
  have e4:=chain_ok (da:=dC (.int 1)) (db:=dVar 3) (dc:=dC (.int 12)) (e:=[x0,some (.val (.lst L)),x2,some (.val (.int x)),x4,x5,x6,x7]) (μ:=μ) (a:=1) (b:=x) (c:=12) (by simp (disch:=first | decide | omega | assumption) only [stw,stc,Nat.reduceAdd,Nat.reduceSub]) (by simp (disch:=first | decide | omega | assumption) only [stw,stc,Nat.reduceAdd,Nat.reduceSub]) (by simp (disch:=first | decide | omega | assumption) only [stw,stc,Nat.reduceAdd,Nat.reduceSub])
  generalize dChain fLe fLe (dC (.int 1)) (dVar 3) (dC (.int 12)) = D at e4
  cases z:(decide ((1:Int) ≤ x) && decide ((x:Int) ≤ 12)) with
  | true =>
   rw [z] at e4
   rw [Bool.not_true,Bool.false_or]
   simp (disch:=first | decide | omega | assumption) only [stw,stc,Nat.reduceAdd,Nat.reduceSub,isNon_int,e4]
   congr 4
   exact propext (by lia)
  | false =>
   rw [z] at e4
   rw [Bool.not_false,Bool.true_or]
   simp (disch:=first | decide | omega | assumption) only [stw,stc,Nat.reduceAdd,Nat.reduceSub,isNon_int,e4]
 ·rw [if_neg q,rng_non q]
  simp (disch:=first | decide | omega | assumption) only [stw,stc,Nat.reduceAdd,Nat.reduceSub,isNon_non]
  rfl
theorem b_due:b__law_due = (sSeq (sSet 1 (dMeth splitT (dVar 0) (dC (.str "; "))))
 (sSeq (sIf (dBin fLt (dLen (dVar 1)) (dC (.int 2))) (sRet (dC (.str "none"))) sNil)
 (sSeq (sSet 2 (dCall (cal fV__law_number) [(dIdx (dVar 1) (dC (.int 0)))]))
 (sSeq (sSet 3 (dCall (cal fV__law_number) [(dIdx (dVar 1) (dC (.int 1)))]))
 (sSeq (sIf c4 (sRet (dC (.str "none"))) sNil)
 (sSeq (sIf c5 (sRet (dC (.str "none"))) sNil)
 (sSeq (sSet 4 (dCell (dLst [])))
 (sSeq (sFor (iSeq (dCut (dVar 1) (some (dC (.int 2))) none)) (bName 5) dueB)
 (sRet (dTup [(dVar 2),(dVar 3),(dUn fTuple (dVar 4))])))))))))):=rfl
theorem ln_rdp {a:Str} (h:(rdp a).isSome = true):ln a = .int (val a) ∧ val a ≤ 97:=by
 unfold rdp at h
 split at h
 ·rename_i q
  have h2:=q.2
  unfold prm at h2
  simp only [Bool.and_eq_true,decide_eq_true_eq] at h2
  exact ⟨by unfold ln; rw [if_pos ⟨q.1,by lia⟩],h2.1.2⟩
 ·cases h
theorem ln_rng {b:Str} (h:(rng b 1 12).isSome = true):ln b = .int (val b):=by
 unfold rng at h
 split at h
 ·rename_i q
  unfold ln
  rw [if_pos ⟨q.1,by lia⟩]
 ·cases h
theorem due_ok {t:Str} (h:t.length ≤ 2000000) (ht:∀ c ∈ tl t,c < 1114112) (μ:Store):fV__law_due [.val (.str t)] μ = .ok (.val (told (tabV t))) μ:=by
 obtain ⟨a,r,hs,_⟩:=split_specS t sc
 have hS:splitT t (.str "; ") = some (.lst ((Txt.split t sc).map T.str)):=splitT_of h sc1
 have hwl:∀ v ∈ Txt.split t sc,v.length ≤ 2000000 ∧ ∀ c ∈ tl v,c < 1114112:=fun v hv => ⟨Nat.le_trans (split_wordS hv).1 h,fun c hc => ht c ((split_wordS hv).2 c hc)⟩
 unfold tabV
 rw [hs] at hS hwl ⊢
 have e1:dMeth splitT (dVar 0) (dC (.str "; ")) [some (.val (.str t)),none,none,none,none,none,none,none] μ = .ok (.val (.lst ((a :: r).map T.str))) μ:=dMeth_at (by simp (disch:=first | decide | omega | assumption) only [stw,stc,Nat.reduceAdd,Nat.reduceSub]) (by simp (disch:=first | decide | omega | assumption) only [stw,stc,Nat.reduceAdd,Nat.reduceSub]) hS
 unfold fV__law_due
 rw [b_due]
 generalize dMeth splitT (dVar 0) (dC (.str "; ")) = D0 at e1
 cases r with
 | nil =>
  rw [List.map_cons,List.map_nil] at e1
  have g1:decide ((([T.str a]:List T).length:Int) < 2) = true:=rfl
  show _ = R.ok (SV.val (.str "none")) μ
  generalize hL:([T.str a]:List T) = L at *
  simp (disch:=first | decide | omega | assumption) only [stw,stc,Nat.reduceAdd,Nat.reduceSub,e1,g1]
 | cons b rs =>
  have g1:decide ((((T.str a :: .str b :: rs.map T.str):List T).length:Int) < 2) = false:=decide_eq_false (by simp only [List.length_cons]; lia)
  show _ = R.ok (SV.val (told (if rs.length ≤ 24 ∧ (rdp a).isSome = true ∧ (rng b 1 12).isSome = true then _ else none))) μ
  rw [List.map_cons,List.map_cons] at e1
  have i0:atI (T.str a :: .str b :: rs.map T.str) 0 = some (.str a):=by simp (disch:=first | decide | omega | assumption) only [stw,stc,Nat.reduceAdd,Nat.reduceSub]
  have i1:atI (T.str a :: .str b :: rs.map T.str) 1 = some (.str b):=by simp (disch:=first | decide | omega | assumption) only [stw,stc,Nat.reduceAdd,Nat.reduceSub]
  have f1:=number_ok (hwl a List.mem_cons_self).2 μ
  have f2:=number_ok (hwl b (List.mem_cons_of_mem _ List.mem_cons_self)).2 μ
  have h4:=c4_ok a (some (.val (.str t))) (some (.val (.lst (.str a :: .str b :: rs.map T.str)))) (some (.val (ln b))) none none none none μ
  have h5:=c5_ok b (some (.val (.str t))) (some (.val (ln a))) none none none none (.str a :: .str b :: rs.map T.str) μ
  have k2:=cut2 (.str a) (.str b) (rs.map T.str)
  have hlen:(T.str a :: .str b :: rs.map T.str).length = rs.length + 2:=by simp only [List.length_cons,List.length_map]
  rw [hlen] at h5
  generalize (T.str a :: .str b :: rs.map T.str) = L at *
  by_cases c2:(rdp a).isSome = true
  ·rw [c2] at h4
   by_cases c3:(rng b 1 12).isSome = true ∧ rs.length ≤ 24
   ·rw [c3.1,decide_eq_false (show ¬ 26 < rs.length + 2 by have:=c3.2; lia),Bool.not_true,Bool.false_or] at h5
    rw [if_pos ⟨c3.2,c2,c3.1⟩]
    obtain ⟨q1,q2⟩:=ln_rdp c2
    have q3:=ln_rng c3.1
    rw [q1] at f1 h4 h5
    rw [q3] at f2 h4 h5
    obtain ⟨y5,y6,y7,acc',hf⟩:=due_loop (p:=val a) (w:=val b) (by lia) (some (.val (.str t))) (some (.val (.lst L))) (fun _ => True) (fun _ => trivial) μ rs [] none none none (fun v hv => hwl v (List.mem_cons_of_mem _ (List.mem_cons_of_mem _ hv))) (by have:=c3.2; simp; lia)
    cases z:trav (rowV (val a) (val b)) rs with
    | none =>
     rw [z] at hf
     simp (disch:=first | decide | omega | assumption) only [stw,stc,Nat.reduceAdd,Nat.reduceSub,e1,g1,i0,i1,f1,f2,h4,h5,k2]
     rw [hf]
     simp (disch:=first | decide | omega | assumption) only [stw,stc,Nat.reduceAdd,Nat.reduceSub]
     rw [List.take_left]
     rfl
    | some ts =>
     rw [z] at hf
     simp (disch:=first | decide | omega | assumption) only [stw,stc,Nat.reduceAdd,Nat.reduceSub,e1,g1,i0,i1,f1,f2,h4,h5,k2]
     rw [hf]
     simp (disch:=first | decide | omega | assumption) only [stw,stc,Nat.reduceAdd,Nat.reduceSub,st_get0]
     rw [List.take_left]
     rfl
   ·have:(!(rng b 1 12).isSome || decide (26 < rs.length + 2)) = true:=by
     cases z:(rng b 1 12).isSome with
     | false => rfl
     | true =>
      rw [decide_eq_true (show 26 < rs.length + 2 by have:¬ rs.length ≤ 24:=fun y => c3 ⟨z,y⟩; lia)]
      rfl
    rw [this] at h5
    rw [if_neg (fun q => c3 ⟨q.2.2,q.1⟩)]
    simp (disch:=first | decide | omega | assumption) only [stw,stc,Nat.reduceAdd,Nat.reduceSub,e1,g1,i0,i1,f1,f2,h4,h5]
    rfl
  ·have c2':(rdp a).isSome = false:=by simpa using c2
   rw [c2'] at h4
   rw [if_neg (fun q => c2 q.2.1)]
   simp (disch:=first | decide | omega | assumption) only [stw,stc,Nat.reduceAdd,Nat.reduceSub,e1,g1,i0,i1,f1,f2,h4]
   rfl
end Fw.k91
namespace Fw.k91
open PySem Fw Fw.H Fw.E Fw.U
theorem cut_ok (x:Str) (lo hi:Option Int):(cutS x lo hi).length ≤ x.length ∧ ∀ c ∈ tl (cutS x lo hi),c ∈ tl x:=by
 unfold cutS
 split
 ·exact ⟨Nat.le_refl _,fun _ h => h⟩
 ·constructor
  ·rw [tl_len]
   show (List.filterMap _ _).length ≤ _
   exact Nat.le_trans (List.length_filterMap_le _ _) (sliceIndices_le lo hi x.length)
  ·intro c hc
   have hc:c ∈ List.filterMap (fun i => x.cps[i]?) (Builtin.Str.strSliceIndices lo hi 1 x.length):=hc
   obtain ⟨i,_,hi⟩:=List.mem_filterMap.mp hc
   rw [← Array.getElem?_toList] at hi
   exact List.mem_of_getElem? hi
theorem idx_at {x:Str} {i:Int} (h0:0 ≤ i) (h1:i < x.length) (hx:x.length ≤ 1000):∃ c,fIdx (.str x) (.int i) = some (.str ⟨#[c]⟩) ∧ c ∈ tl x:=by
 obtain ⟨k,rfl⟩:∃ k:Nat,i = k:=⟨i.toNat,by lia⟩
 have hk:k < (tl x).length:=by rw [← tl_len]; lia
 refine ⟨(tl x)[k],?_,List.getElem_mem hk⟩
 show (if x.length ≤ szL then (atI (tl x) (k:Int)).map (fun c => T.str ⟨#[c]⟩) else none) = _
 rw [if_pos (by unfold szL; lia)]
 have:atI (tl x) (k:Int) = some (tl x)[k]:=by
  rw [atI_nat (by lia),Int.toNat_natCast]
  exact List.getElem?_eq_getElem hk
 rw [this]; rfl
noncomputable def Bt (n:Nat) (t:Str):Prop:=t.length ≤ n ∧ ∀ c ∈ tl t,c < 1114112
theorem Bt.cut {n:Nat} {t:Str} (h:Bt n t) (lo hi:Option Int):Bt n (cutS t lo hi):=⟨Nat.le_trans (cut_ok t lo hi).1 h.1,fun c hc => h.2 c ((cut_ok t lo hi).2 c hc)⟩
theorem Bt.add {n m:Nat} {t u:Str} (h:Bt n t) (k:Bt m u):Bt (n + m) (t ++ u):=⟨by rw [Str.length_append]; have:=h.1; have:=k.1; lia,fun c hc => by
 rw [tl_app] at hc
 rcases List.mem_append.mp hc with hc | hc
 ·exact h.2 c hc
 ·exact k.2 c hc⟩
theorem cutS_at {n:Nat} {t:Str} (h:Bt n t) (hn:n ≤ 100000) {lo hi:Option D} {l u:Option Int} {a:D} {e:Slots} {μ:Store} (h1:a e μ = .ok (.val (.str t)) μ) (h2:dOpt lo e μ = .ok l μ) (h3:dOpt hi e μ = .ok u μ):dCutS a lo hi e μ = .ok (.val (.str (cutS t l u))) μ:=by
 rw [dCutS_is,h1,R.bind_ok,h2,R.bind_ok,h3,R.bind_ok,rd_val,ap1_some]
 show R.lift ((if (cutS t l u).length ≤ szL then some (T.str (cutS t l u)) else none).map SV.val) μ = _
 rw [if_pos (by have:=(h.cut l u).1; unfold szL; lia)]; rfl
theorem add_at {n m:Nat} {t u:Str} (h:Bt n t) (k:Bt m u) (hn:n + m ≤ 100000) {a b:D} {e:Slots} {μ:Store} (h1:a e μ = .ok (.val (.str t)) μ) (h2:b e μ = .ok (.val (.str u)) μ):dBin fAdd a b e μ = .ok (.val (.str (t ++ u))) μ:=by
 have:fAdd (.str t) (.str u) = some (.str (t ++ u)):=fAdd_str t u (by have:=h.1; have:=k.1; unfold szL; lia)
 simp (disch:=first | decide | omega | assumption) only [stw,stc,Nat.reduceAdd,Nat.reduceSub,h1,h2,this]
theorem Bt.up {n m:Nat} {t:Str} (h:Bt n t) (hm:n ≤ m):Bt m t:=⟨Nat.le_trans h.1 hm,h.2⟩
theorem fs_bound {sep:Str} {n:Nat}:∀ (ws:List Str),(∀ w ∈ ws,w.length ≤ n) → (fs sep ws).length ≤ (sep.length + n) * ws.length
 | [],_ => by simp [fs]
 | w :: ws,h => by
  rw [fs_cons]
  have h1:=h w List.mem_cons_self
  rw [tl_len] at h1
  have:=fs_bound (sep:=sep) ws fun x hx => h x (List.mem_cons_of_mem _ hx)
  simp only [List.length_cons,List.length_append]
  rw [Nat.mul_succ,tl_len sep]
  rw [tl_len sep] at this
  lia
theorem join_all {sep:Str} {ws:List Str} {n:Nat} (hs:Bt 2 sep) (hn:n ≤ 900) (hl:ws.length ≤ 902) (hw:∀ w ∈ ws,Bt n w):∃ u,Bt 1000000 u ∧ joinT sep (.lst (ws.map T.str)) = some (.str u):=by
 have hb:=hs.1
 have hj:JoinOk sep ws = true:=by
  refine join_ok (n:=900) (fun w h => Nat.le_trans (hw w h).1 hn) ?_
  have:ws.length * (900 + sep.length) ≤ 902 * 902:=Nat.mul_le_mul hl (by lia)
  unfold szL
  lia
 refine ⟨Txt.join sep ws,?_,?_⟩
 ·cases ws with
  | nil => exact ⟨by show 0 ≤ _; lia,fun c hc => by cases hc⟩
  | cons w ws =>
   have e:=tl_joinS sep w ws
   refine ⟨?_,fun c hc => ?_⟩
   ·rw [tl_len,e,List.length_append]
    have h1:=(hw w List.mem_cons_self).1
    rw [tl_len] at h1
    have h2:=fs_bound (sep:=sep) (n:=900) ws fun x hx => Nat.le_trans (hw x (List.mem_cons_of_mem _ hx)).1 hn
    have h3:(sep.length + 900) * ws.length ≤ 902 * 902:=Nat.mul_le_mul (by lia) (by simp only [List.length_cons] at hl; lia)
    lia
   ·rw [e] at hc
    rcases List.mem_append.mp hc with hc | hc
    ·exact (hw w List.mem_cons_self).2 c hc
    ·obtain ⟨x,hx,hc⟩:=List.mem_flatMap.mp hc
     rcases List.mem_append.mp hc with hc | hc
     ·exact hs.2 c hc
     ·exact (hw x (List.mem_cons_of_mem _ hx)).2 c hc
 ·show ((asStrs (ws.map T.str)).bind fun ys => if JoinOk sep ys = true then some (T.str (Txt.join sep ys)) else none) = _
  rw [asStrs_map,Option.bind_some,if_pos hj]
theorem at_word {ws:List Str} {i:Nat} (h:i < ws.length):atI (ws.map T.str) (i:Int) = some (.str ws[i]):=by
 rw [atI_nat (by lia),Int.toNat_natCast,List.getElem?_map,List.getElem?_eq_getElem h]; rfl
theorem set_word {ws:List Str} {i:Nat} (h:i < ws.length) (w:Str) (μ:Store):setAt (.cel μ.length) (.int (i:Int)) (.str w) (μ ++ [(true,.lst (ws.map T.str))]) = some (μ ++ [(true,.lst ((ws.set i w).map T.str))]):=by
 rw [setAt_at (ts:=ws.map T.str) st_get0 (by lia) (by rw [List.length_map]; lia),st_set0,Int.toNat_natCast,← List.map_set]
theorem mod_nat (c:Int) {n:Nat} (h:0 < n):∃ i:Nat,i < n ∧ fMod (.int c) (.int n) = some (.int i):=by
 have h0:=Int.emod_nonneg c (show (n:Int) ≠ 0 by lia)
 have h1:=Int.emod_lt_of_pos c (show (0:Int) < n by lia)
 refine ⟨(c % n).toNat,by lia,?_⟩
 rw [fMod_int _ _ (by lia),show (((c % n).toNat:Nat):Int) = c % n by lia]
theorem exchanged_ok {sep:Str} {ws:List Str} {n:Nat} (hs:Bt 2 sep) (hn:n ≤ 900) (hl:ws.length ≤ 901) (h0:ws ≠ []) (hw:∀ w ∈ ws,Bt n w) (c:Int) (μ:Store):∃ u,Bt 1000000 u ∧ fV__law_exchanged [.val (.lst (ws.map T.str)),.val (.int c),.val (.str sep)] μ = .ok (.val (.str u)) μ:=by
 have hpos:0 < ws.length:=by
  cases ws with
  | nil => exact absurd rfl h0
  | cons w ws => simp
 obtain ⟨i,hi,m1⟩:=mod_nat c hpos
 obtain ⟨j,hj,m2⟩:=mod_nat (c / 64) hpos
 have a1:=at_word hi
 have a2:=at_word hj
 have s1:=set_word hi ws[j] μ
 have s2:=set_word (ws:=ws.set i ws[j]) (i:=j) (by rw [List.length_set]; exact hj) ws[i] μ
 have hmem:∀ w ∈ (ws.set i ws[j]).set j ws[i],Bt n w:=fun w h => by
  rcases List.mem_or_eq_of_mem_set h with h | rfl
  ·rcases List.mem_or_eq_of_mem_set h with h | rfl
   ·exact hw w h
   ·exact hw _ (List.getElem_mem _)
  ·exact hw _ (List.getElem_mem _)
 obtain ⟨u,hu,e⟩:=join_all hs hn (ws:=(ws.set i ws[j]).set j ws[i]) (by rw [List.length_set,List.length_set]; lia) hmem
 refine ⟨u,hu,?_⟩
 have hL:(ws.map T.str).length = ws.length:=List.length_map ..
 rw [← hL] at m1 m2
 generalize ((ws.set i ws[j]).set j ws[i]).map T.str = W2 at *
 generalize (ws.set i ws[j]).map T.str = W1 at *
 generalize ws.map T.str = W0 at *
 have e1:dMeth joinT (dVar 2) (dVar 5) [some (.val (.lst W0)),some (.val (.int c)),some (.val (.str sep)),some (.val (.int i)),some (.val (.int j)),some (.cel μ.length)] (μ ++ [(true,.lst W2)]) = .ok (.val (.str u)) (μ ++ [(true,.lst W2)]):=by
  rw [dMeth_is]
  simp (disch:=first | decide | omega | assumption) only [stw,stc,Nat.reduceAdd,Nat.reduceSub,asStr_str,st_get0]
  rw [e]; rfl
 unfold fV__law_exchanged b__law_exchanged
 generalize dMeth joinT (dVar 2) (dVar 5) = D at e1
 simp (disch:=first | decide | omega | assumption) only [stw,stc,Nat.reduceAdd,Nat.reduceSub,m1,m2,a1,a2,s1,s2,e1]
 rw [List.take_left]
theorem sp2:Bt 2 " ":=⟨by decide +kernel,by decide +kernel⟩
theorem sc2:Bt 2 "; ":=⟨by decide +kernel,by decide +kernel⟩
theorem split_bt {n:Nat} {t sep:Str} (h:Bt n t):∀ w ∈ Txt.split t sep,Bt n w:=fun w hw => ⟨Nat.le_trans (split_wordS hw).1 h.1,fun c hc => h.2 c ((split_wordS hw).2 c hc)⟩
theorem ex_at {sep:Str} (h1:1 ≤ sep.length) (h2:Bt 2 sep) {t:Str} (h:Bt 900 t) (c:Int) (μ:Store):∃ u,Bt 1000000 u ∧ fV__law_exchanged [.val (.lst ((Txt.split t sep).map T.str)),.val (.int c),.val (.str sep)] μ = .ok (.val (.str u)) μ :=
 exchanged_ok h2 (Nat.le_refl _) (by have:=split_lenS h1 t; have:=h.1; lia) (split_ne t sep) (split_bt h) c μ
noncomputable def sgs:Str:="0123789; ;abkx-"
theorem sgs_len:sgs.length = 15:=by decide +kernel
theorem spoilt_ok {t:Str} (h:Bt 900 t) {c:Int} (hc:0 ≤ c) (μ:Store):∃ u,Bt 1000000 u ∧ fV__law_spoilt [.val (.str t),.val (.int c)] μ = .ok (.val (.str u)) μ:=by
 have hl:=h.1
 have q0:=Int.emod_nonneg (c / 6) (show (15:Int) ≠ 0 by lia)
 have q1:=Int.emod_lt_of_pos (c / 6) (show (0:Int) < 15 by lia)
 obtain ⟨ch,hch,hm⟩:=idx_at (x:=sgs) q0 (by rw [sgs_len]; exact q1) (by rw [sgs_len]; lia)
 have hch:fIdx (.str "0123789; ;abkx-") (.int (c / 6 % 15)) = some (.str ⟨#[ch]⟩):=hch
 have hs:Bt 1 ⟨#[ch]⟩:=⟨Nat.le_refl _,fun x hx => by
  have e:x = ch:=by have:x ∈ [ch]:=hx; simpa using this
  rw [e]
  have:∀ y ∈ tl sgs,y < 1114112:=by decide +kernel
  exact this ch hm⟩
 have eL:=lenS_str (μ:=μ) (x:=t) (by lia)
 obtain ⟨a,ha⟩:∃ a:Int,a = c / 128 % ((t.length:Int) + 1):=⟨_,rfl⟩
 have hmod:fMod (.int (c / 128)) (.int ((t.length:Int) + 1)) = some (.int a):=by rw [ha]; exact fMod_int _ _ (by lia)
 have v0:∀ x4,dVar 0 [some (.val (.str t)),some (.val (.int c)),some (.val (.str ⟨#[ch]⟩)),some (.val (.int a)),x4] μ = .ok (.val (.str t)) μ:=fun _ => by simp (disch:=first | decide | omega | assumption) only [stw,stc,Nat.reduceAdd,Nat.reduceSub]
 have v2:dVar 2 [some (.val (.str t)),some (.val (.int c)),some (.val (.str ⟨#[ch]⟩)),some (.val (.int a)),none] μ = .ok (.val (.str ⟨#[ch]⟩)) μ:=by simp (disch:=first | decide | omega | assumption) only [stw,stc,Nat.reduceAdd,Nat.reduceSub]
 have o3:dOpt (some (dVar 3)) [some (.val (.str t)),some (.val (.int c)),some (.val (.str ⟨#[ch]⟩)),some (.val (.int a)),none] μ = .ok (some a) μ:=by simp (disch:=first | decide | omega | assumption) only [stw,stc,Nat.reduceAdd,Nat.reduceSub]
 have o4:dOpt (some (dBin fAdd (dVar 3) (dC (.int 1)))) [some (.val (.str t)),some (.val (.int c)),some (.val (.str ⟨#[ch]⟩)),some (.val (.int a)),none] μ = .ok (some (a + 1)) μ:=by simp (disch:=first | decide | omega | assumption) only [stw,stc,Nat.reduceAdd,Nat.reduceSub]
 have c1:=cutS_at h (by lia) (lo:=none) (v0 none) rfl o3
 have c2:=cutS_at h (by lia) (hi:=none) (v0 none) o3 rfl
 have c3:=cutS_at h (by lia) (hi:=none) (v0 none) o4 rfl
 have b1:=h.cut none (some a)
 have b2:=h.cut (some a) none
 have b3:=h.cut (some (a + 1)) none
 have d1:=add_at b1 hs (by lia) c1 v2
 have d2:=add_at (b1.add hs) b2 (by lia) d1 c2
 have d3:=add_at b1 b3 (by lia) c1 c3
 have d4:=add_at (b1.add hs) b3 (by lia) d1 c3
 have hr:c % 6 = 0 ∨ c % 6 = 1 ∨ c % 6 = 2 ∨ c % 6 = 3 ∨ c % 6 = 4 ∨ c % 6 = 5:=by lia
 have sS:=splitT_of (t:=t) (by lia) sc1
 have sB:=splitT_of (t:=t) (by lia) bl1
 have e1:=dMeth_at (g:=splitT) (b:=dC (.str "; ")) (v0 none) (by simp (disch:=first | decide | omega | assumption) only [stw,stc,Nat.reduceAdd,Nat.reduceSub]) sS
 have e2:=dMeth_at (g:=splitT) (b:=dC (.str " ")) (v0 none) (by simp (disch:=first | decide | omega | assumption) only [stw,stc,Nat.reduceAdd,Nat.reduceSub]) sB
 unfold fV__law_spoilt b__law_spoilt
 generalize dBin fAdd (dBin fAdd (dCutS (dVar 0) none (some (dVar 3))) (dVar 2)) (dCutS (dVar 0) (some (dVar 3)) none) = E0 at d2
 generalize dBin fAdd (dBin fAdd (dCutS (dVar 0) none (some (dVar 3))) (dVar 2)) (dCutS (dVar 0) (some (dBin fAdd (dVar 3) (dC (.int 1)))) none) = E2 at d4
 generalize dBin fAdd (dCutS (dVar 0) none (some (dVar 3))) (dCutS (dVar 0) (some (dBin fAdd (dVar 3) (dC (.int 1)))) none) = E1 at d3
 rcases hr with hr | hr | hr | hr | hr | hr
 ·have z0:(c % 6 == 0) = true:=by rw [hr]; rfl
  refine ⟨_,((b1.add hs).add b2).up (by lia),?_⟩
  simp (disch:=first | decide | omega | assumption) only [stw,stc,Nat.reduceAdd,Nat.reduceSub,idxS_str,hch,eL,hmod,z0,d2]
 ·have z0:(c % 6 == 0) = false:=by rw [hr]; rfl
  have z1:(c % 6 == 1) = true:=by rw [hr]; rfl
  refine ⟨_,(b1.add b3).up (by lia),?_⟩
  simp (disch:=first | decide | omega | assumption) only [stw,stc,Nat.reduceAdd,Nat.reduceSub,idxS_str,hch,eL,hmod,z0,z1,d3]
 ·have z0:(c % 6 == 0) = false:=by rw [hr]; rfl
  have z1:(c % 6 == 1) = false:=by rw [hr]; rfl
  have z2:(c % 6 == 2) = true:=by rw [hr]; rfl
  refine ⟨_,((b1.add hs).add b3).up (by lia),?_⟩
  simp (disch:=first | decide | omega | assumption) only [stw,stc,Nat.reduceAdd,Nat.reduceSub,idxS_str,hch,eL,hmod,z0,z1,z2,d4]
 ·have z0:(c % 6 == 0) = false:=by rw [hr]; rfl
  have z1:(c % 6 == 1) = false:=by rw [hr]; rfl
  have z2:(c % 6 == 2) = false:=by rw [hr]; rfl
  have z3:(c % 6 == 3) = true:=by rw [hr]; rfl
  obtain ⟨u,hu,e⟩:=ex_at sc1 sc2 h (c / 128) μ
  refine ⟨u,hu,?_⟩
  generalize dMeth splitT (dVar 0) (dC (.str "; ")) = E4 at e1
  simp (disch:=first | decide | omega | assumption) only [stw,stc,Nat.reduceAdd,Nat.reduceSub,idxS_str,hch,eL,hmod,z0,z1,z2,z3,e1,e]
 ·have z0:(c % 6 == 0) = false:=by rw [hr]; rfl
  have z1:(c % 6 == 1) = false:=by rw [hr]; rfl
  have z2:(c % 6 == 2) = false:=by rw [hr]; rfl
  have z3:(c % 6 == 3) = false:=by rw [hr]; rfl
  have z4:(c % 6 == 4) = true:=by rw [hr]; rfl
  obtain ⟨u,hu,e⟩:=ex_at bl1 sp2 h (c / 128) μ
  refine ⟨u,hu,?_⟩
  generalize dMeth splitT (dVar 0) (dC (.str " ")) = E5 at e2
  simp (disch:=first | decide | omega | assumption) only [stw,stc,Nat.reduceAdd,Nat.reduceSub,idxS_str,hch,eL,hmod,z0,z1,z2,z3,z4,e2,e]
 ·have z0:(c % 6 == 0) = false:=by rw [hr]; rfl
  have z1:(c % 6 == 1) = false:=by rw [hr]; rfl
  have z2:(c % 6 == 2) = false:=by rw [hr]; rfl
  have z3:(c % 6 == 3) = false:=by rw [hr]; rfl
  have z4:(c % 6 == 4) = false:=by rw [hr]; rfl
  have hne:=split_ne t "; "
  have hln:=split_lenS sc1 t
  have hbt:=split_bt (sep:="; ") h
  generalize Txt.split t "; " = ws at *
  have hpos:0 < ws.length:=by
   cases ws with
   | nil => exact absurd rfl hne
   | cons w ws => simp
  obtain ⟨i,hi,m1⟩:=mod_nat (c / 128) hpos
  have a1:=at_word hi
  obtain ⟨u,hu,e⟩:=join_all sc2 (Nat.le_refl _) (ws:=ws ++ [ws[i]]) (by rw [List.length_append]; show _ + 1 ≤ _; lia) (fun w hw => by
   rcases List.mem_append.mp hw with hw | hw
   ·exact hbt w hw
   ·rw [List.mem_singleton.mp hw]; exact hbt _ (List.getElem_mem _))
  rw [List.map_append] at e
  have hL:(ws.map T.str).length = ws.length:=List.length_map ..
  have ad:fAdd (.lst (ws.map T.str)) (.lst [.str ws[i]]) = some (.lst (ws.map T.str ++ [.str ws[i]])):=fAdd_lst _ _ (by rw [hL]; show _ + 1 ≤ _; unfold szL; lia)
  rw [← hL] at m1
  have e:joinT "; " (.lst (ws.map T.str ++ [.str ws[i]])) = some (.str u):=e
  generalize ws[i] = wi at *
  generalize ws.map T.str = W0 at *
  have e3:dMeth joinT (dC (.str "; ")) (dBin fAdd (dVar 4) (dLst [(dIdx (dVar 4) (dBin fMod (dBin fDiv (dVar 1) (dC (.int 128))) (dLen (dVar 4))))])) [some (.val (.str t)),some (.val (.int c)),some (.val (.str ⟨#[ch]⟩)),some (.val (.int a)),some (.val (.lst W0))] μ = .ok (.val (.str u)) μ:=dMeth_at (by simp (disch:=first | decide | omega | assumption) only [stw,stc,Nat.reduceAdd,Nat.reduceSub]) (by simp (disch:=first | decide | omega | assumption) only [stw,stc,Nat.reduceAdd,Nat.reduceSub,m1,a1,ad]) e
  refine ⟨u,hu,?_⟩
  generalize dMeth joinT (dC (.str "; ")) (dBin fAdd (dVar 4) (dLst [(dIdx (dVar 4) (dBin fMod (dBin fDiv (dVar 1) (dC (.int 128))) (dLen (dVar 4))))])) = E6 at e3
  generalize dMeth splitT (dVar 0) (dC (.str "; ")) = E4 at e1
  simp (disch:=first | decide | omega | assumption) only [stw,stc,Nat.reduceAdd,Nat.reduceSub,idxS_str,hch,eL,hmod,z0,z1,z2,z3,z4,e1,e3]
end Fw.k91
namespace Fw.k91
open PySem Fw Fw.H Fw.E Fw.U Fw.F
noncomputable def ns (i:Int):Str:=Str.ofString (toString i)
noncomputable def lt (h:Int):Str:=⟨#[97 + h.toNat]⟩
noncomputable def rtx (q:Int × List Int):Str:=Txt.join " " (lt q.1 :: q.2.map ns)
noncomputable def txt (p:Int) (w:Nat) (rows:Rows):Str:=Txt.join sc (ns p :: ns w :: rows.map rtx)
structure Ok (p:Int) (w:Nat) (rows:Rows):Prop where
 tb:Tbl p w rows
 w6:w ≤ 6
 n:rows.length ≤ 11
 hd:∀ q ∈ rows,0 ≤ q.1 ∧ q.1 < 10
theorem ns_small {i:Int} (h0:0 ≤ i) (h1:i < 100):num (ns i) = true ∧ (val (ns i):Int) = i ∧ (ns i).length ≤ 2 ∧ ∀ c ∈ tl (ns i),48 ≤ c ∧ c ≤ 57:=by
 obtain ⟨k,rfl⟩:∃ k:Nat,i = k:=⟨i.toNat,by lia⟩
 obtain ⟨a,b,c⟩:=small_strH k (List.mem_range.mpr (by lia))
 exact ⟨a,by show ((val (Str.ofString (toString (k:Int))):Nat):Int) = k; rw [b],c,dgs_all (num_parts a).2.2.2⟩
theorem lt_tl (h:Int):tl (lt h) = [97 + h.toNat]:=rfl
theorem row_words {p:Int} {w:Nat} {l:List Int} (hp:p ≤ 97) (hl:Rw p w l):∀ v ∈ l.map ns,v.length ≤ 2 ∧ (∀ c ∈ tl v,48 ≤ c ∧ c ≤ 57):=fun v hv => by
 obtain ⟨x,hx,rfl⟩:=List.mem_map.mp hv
 have h0:=hl.lo x hx
 have h1:=hl.hi x hx
 obtain ⟨_,_,a,b⟩:=ns_small h0 (by lia)
 exact ⟨a,b⟩
theorem rtx_sgn {p:Int} {w:Nat} {q:Int × List Int} (hp:p ≤ 97) (hl:Rw p w q.2) (hh:0 ≤ q.1 ∧ q.1 < 10):(∀ c ∈ tl (rtx q),c = 32 ∨ (48 ≤ c ∧ c ≤ 57) ∨ (97 ≤ c ∧ c < 107)):=fun c hc => by
 unfold rtx at hc
 rw [tl_joinS,lt_tl] at hc
 rcases List.mem_append.mp hc with hc | hc
 ·have:=List.mem_singleton.mp hc
  subst this
  right; right; lia
 ·obtain ⟨x,hx,hc⟩:=List.mem_flatMap.mp hc
  rcases List.mem_append.mp hc with hc | hc
  ·rw [tl_sp] at hc
   exact .inl (List.mem_singleton.mp hc)
  ·exact .inr (.inl ((row_words hp hl x hx).2 c hc))
theorem rtx_len {p:Int} {w:Nat} {q:Int × List Int} (hp:p ≤ 97) (hl:Rw p w q.2) (hw:w ≤ 6):(rtx q).length ≤ 20:=by
 unfold rtx
 rw [tl_len,tl_joinS,lt_tl,List.length_append]
 have h2:=fs_bound (sep:=" ") (n:=2) (q.2.map ns) fun x hx => (row_words hp hl x hx).1
 rw [List.length_map,hl.len,show (" ":Str).length = 1 from rfl] at h2
 have:(1 + 2) * w ≤ 3 * 6:=Nat.mul_le_mul_left _ hw
 show 1 + _ ≤ 20
 lia
theorem rtx_split {p:Int} {w:Nat} {q:Int × List Int} (hp:p ≤ 97) (hl:Rw p w q.2) (hh:0 ≤ q.1 ∧ q.1 < 10):Txt.split (rtx q) " " = lt q.1 :: q.2.map ns:=by
 refine split_joined _ _ fun x hx hc => ?_
 rcases List.mem_cons.mp hx with rfl | hx
 ·rw [lt_tl] at hc
  have:=List.mem_singleton.mp hc
  lia
 ·have:=(row_words hp hl x hx).2 32 hc
  lia
theorem hnd_lt {h:Int} (hh:0 ≤ h ∧ h < 10):hnd (lt h) = some (.int h):=by
 show (if 97 + h.toNat ∈ lts then some (T.int (((97 + h.toNat:Nat):Int) - 97)) else none) = _
 have:∀ k ∈ List.range 10,97 + k ∈ lts:=by decide
 rw [if_pos (this _ (List.mem_range.mpr (by lia))),show (((97 + h.toNat:Nat):Int) - 97) = h by lia]
theorem trav_ns {p:Int} (hp:p ≤ 97):∀ l:List Int,(∀ x ∈ l,0 ≤ x ∧ x < p) → trav (fun v => rng v 0 (p - 1)) (l.map ns) = some (l.map T.int)
 | [],_ => rfl
 | x :: l,h => by
  rw [List.map_cons]
  unfold trav
  have hx:=h x List.mem_cons_self
  obtain ⟨a,b,_,_⟩:=ns_small hx.1 (by lia)
  have e:rng (ns x) 0 (p - 1) = some (.int x):=by
   unfold rng
   rw [if_pos ⟨a,by rw [b]; lia,by rw [b]; lia⟩,b]
  rw [e,trav_ns hp l fun y hy => h y (List.mem_cons_of_mem _ hy)]
  rfl
theorem rowV_rtx {p:Int} {w:Nat} {q:Int × List Int} (hp:p ≤ 97) (hl:Rw p w q.2) (hh:0 ≤ q.1 ∧ q.1 < 10):rowV p w (rtx q) = some (rt q):=by
 rw [rowV_of (rtx_split hp hl hh),List.length_map,hl.len,if_pos rfl,hnd_lt hh,trav_ns hp q.2 fun x hx => ⟨hl.lo x hx,hl.hi x hx⟩]
 rfl
theorem trav_rows {p:Int} {w:Nat} (hp:p ≤ 97):∀ rows:Rows,(∀ q ∈ rows,Rw p w q.2) → (∀ q ∈ rows,0 ≤ q.1 ∧ q.1 < 10) → trav (rowV p w) (rows.map rtx) = some (rows.map rt)
 | [],_,_ => rfl
 | q :: rows,h1,h2 => by
  rw [List.map_cons]
  unfold trav
  rw [rowV_rtx hp (h1 q List.mem_cons_self) (h2 q List.mem_cons_self),trav_rows hp rows (fun x hx => h1 x (List.mem_cons_of_mem _ hx)) fun x hx => h2 x (List.mem_cons_of_mem _ hx)]
  rfl
theorem pr_prm:∀ x ∈ ([2,3,5,7,11,13,17,19,23,29,31,37,41,43,47,53,59,61,67,71,73,79,83,89,97]:List Int),prm x.toNat = true ∧ 2 ≤ x ∧ x ≤ 97:=by decide +kernel
variable {p:Int} {w:Nat} {rows:Rows}
theorem Ok.p97 (h:Ok p w rows):2 ≤ p ∧ p ≤ 97:=(pr_prm p h.tb.pr).2
theorem pieces (h:Ok p w rows):∀ v ∈ ns p :: ns w :: rows.map rtx,v.length ≤ 20 ∧ ∀ c ∈ tl v,c = 32 ∨ (48 ≤ c ∧ c ≤ 57) ∨ (97 ≤ c ∧ c < 107):=fun v hv => by
 have hp:=h.p97
 have hw:=h.w6
 rcases List.mem_cons.mp hv with rfl | hv
 ·obtain ⟨_,_,a,b⟩:=ns_small (i:=p) (by lia) (by lia)
  exact ⟨by lia,fun c hc => .inr (.inl (b c hc))⟩
 ·rcases List.mem_cons.mp hv with rfl | hv
  ·obtain ⟨_,_,a,b⟩:=ns_small (i:=(w:Int)) (by lia) (by lia)
   exact ⟨by lia,fun c hc => .inr (.inl (b c hc))⟩
  ·obtain ⟨q,hq,rfl⟩:=List.mem_map.mp hv
   exact ⟨rtx_len hp.2 (h.tb.li q hq) hw,rtx_sgn hp.2 (h.tb.li q hq) (h.hd q hq)⟩
theorem txt_bt (h:Ok p w rows):Bt 900 (txt p w rows):=by
 have hP:=pieces h
 unfold txt
 refine ⟨?_,fun c hc => ?_⟩
 ·rw [tl_len,tl_joinS,List.length_append]
  have h1:=(hP (ns p) List.mem_cons_self).1
  rw [tl_len] at h1
  have h2:=fs_bound (sep:=sc) (n:=20) (ns w :: rows.map rtx) fun x hx => (hP x (List.mem_cons_of_mem _ hx)).1
  rw [List.length_cons,List.length_map,sc_len] at h2
  have h3:(2 + 20) * (rows.length + 1) ≤ 22 * 12:=Nat.mul_le_mul_left _ (by have:=h.n; lia)
  lia
 ·rw [tl_joinS] at hc
  rcases List.mem_append.mp hc with hc | hc
  ·have:=(hP _ List.mem_cons_self).2 c hc
   lia
  ·obtain ⟨x,hx,hc⟩:=List.mem_flatMap.mp hc
   rcases List.mem_append.mp hc with hc | hc
   ·rw [tl_sc] at hc
    have:c = 59 ∨ c = 32:=by simpa using hc
    lia
   ·have:=(hP x (List.mem_cons_of_mem _ hx)).2 c hc
    lia
theorem txt_tab (h:Ok p w rows):tabV (txt p w rows) = some (F.tb p w rows):=by
 have hP:=pieces h
 have hp:=h.p97
 have hw:=h.w6
 have hw0:=h.tb.w0
 have e:Txt.split (txt p w rows) sc = ns p :: ns w :: rows.map rtx:=split_sc (fun v hv hc => by
  have:=(hP v hv).2 59 hc
  lia) (tl_joinS sc _ _)
 obtain ⟨a1,a2,_,_⟩:=ns_small (i:=p) (by lia) (by lia)
 obtain ⟨b1,b2,_,_⟩:=ns_small (i:=(w:Int)) (by lia) (by lia)
 unfold tabV
 rw [e]
 show (if (rows.map rtx).length ≤ 24 ∧ (rdp (ns p)).isSome = true ∧ (rng (ns w) 1 12).isSome = true then (trav (rowV (val (ns p)) (val (ns w))) (rows.map rtx)).map fun ts => T.tup [.int (val (ns p)),.int (val (ns w)),.tup ts] else none) = _
 have hprm:prm (val (ns p)) = true:=by
  have:=(pr_prm p h.tb.pr).1
  rw [show val (ns p) = p.toNat by lia]
  exact this
 rw [if_pos ⟨by rw [List.length_map]; have:=h.n; lia,by rw [rdp_some a1]; exact hprm,by rw [rng_some b1,b2,decide_eq_true (by lia),decide_eq_true (by lia)]; rfl⟩,a2,b2]
 rw [trav_rows hp.2 rows h.tb.li h.hd]
 rfl
theorem fStr_ns {i:Int} (h0:0 ≤ i) (h1:i < 100):fStr (.int i) = some (.str (ns i)):=by
 show (if i.natAbs.log2 < 1920 then some (T.str (toString i)) else none) = _
 have:i.natAbs.log2 < 1920:=Nat.lt_of_le_of_lt (Nat.log2_le_self _) (by lia)
 rw [if_pos this]; rfl
theorem fStrA_ns {i:Int} (h0:0 ≤ i) (h1:i < 100):fStrA (.int i) = some (.str (ns i)):=by
 show (if i.natAbs.log2 < 1920 then some (T.str (toString i)) else none) = _
 have:i.natAbs.log2 < 1920:=Nat.lt_of_le_of_lt (Nat.log2_le_self _) (by lia)
 rw [if_pos this]; rfl
theorem letter (S:Str) (hS:(tl S).take 10 = lts) (hl:S.length ≤ 100) {h:Int} (hh:0 ≤ h ∧ h < 10):fIdx (.str S) (.int h) = some (.str (lt h)):=by
 show (if S.length ≤ szL then (atI (tl S) h).map (fun c => T.str ⟨#[c]⟩) else none) = _
 rw [if_pos (by unfold szL; lia),atI_nat hh.1]
 have e:(tl S)[h.toNat]? = lts[h.toNat]?:=by rw [← hS,List.getElem?_take_of_lt (by lia)]
 have:∀ k ∈ List.range 10,lts[k]? = some (97 + k):=by decide
 rw [e,this _ (List.mem_range.mpr (by lia))]; rfl
theorem join_of {sep:Str} {ws:List Str} (hs:sep.length ≤ 2) (hl:ws.length ≤ 100) (hw:∀ w ∈ ws,w.length ≤ 20):joinT sep (.lst (ws.map T.str)) = some (.str (Txt.join sep ws)):=by
 have hj:JoinOk sep ws = true:=by
  refine join_ok (n:=20) hw ?_
  have:ws.length * (20 + sep.length) ≤ 100 * 22:=Nat.mul_le_mul hl (by lia)
  unfold szL
  lia
 show ((asStrs (ws.map T.str)).bind fun ys => if JoinOk sep ys = true then some (T.str (Txt.join sep ys)) else none) = _
 rw [asStrs_map,Option.bind_some,if_pos hj]
theorem row_join {q:Int × List Int} (hp:p ≤ 97) (hl:Rw p w q.2) (hw:w ≤ 6):joinT " " (.lst (.str (lt q.1) :: q.2.map fun i => T.str (ns i))) = some (.str (rtx q)):=by
 have:=join_of (sep:=" ") (ws:=lt q.1 :: q.2.map ns) (by decide +kernel) (by rw [List.length_cons,List.length_map,hl.len]; lia) fun v hv => by
  rcases List.mem_cons.mp hv with rfl | hv
  ·show 1 ≤ 20; lia
  ·have:=(row_words hp hl v hv).1; lia
 rw [List.map_cons,List.map_map] at this
 exact this
noncomputable def textB:DS:=(sAppend (dVar 1) (dMeth joinT (dC (.str " ")) (dBin fAdd (dLst [(dIdx (dC (.str "abcdefghij")) (dVar 2))]) (dComp (iSeq (dVar 3)) [none] (bName 0) (dC (.bl true)) (dUn fStr (dVar 0))))))
theorem textB_ok {q:Int × List Int} (hp:p ≤ 97) (hl:Rw p w q.2) (hw:w ≤ 6) (hh:0 ≤ q.1 ∧ q.1 < 10) (x0:Option SV) (acc:List T) (ha:acc.length ≤ 20000) (μ:Store) :
  textB [x0,some (.cel μ.length),some (.val (.int q.1)),some (.val (tu q.2))] (μ ++ [(true,.lst acc)]) = .nx [x0,some (.cel μ.length),some (.val (.int q.1)),some (.val (tu q.2))] (μ ++ [(true,.lst (acc ++ [.str (rtx q)]))]):=by
 have hap:∀ t:T,appendAt (.cel μ.length) t (μ ++ [(true,.lst acc)]) = some (μ ++ [(true,.lst (acc ++ [t]))]):=fun t => append_st0 μ [] acc t (by unfold szL; lia)
 have hls:lsts (.cel μ.length) (μ ++ [(true,.lst acc)]) = some ():=by unfold lsts; simp
 have hI:=letter "abcdefghij" (by decide +kernel) (by decide +kernel) hh
 have hc:=compL_ofA (same:=fun _ => True) (b:=bName 0) (d:=dUn fStr (dVar 0)) (e:=[none]) (μ:=μ ++ [(true,.lst acc)]) T.int (fun i => .str (ns i)) trivial q.2 fun i hi => by
  have:=fStr_ns (hl.lo i hi) (by have:=hl.hi i hi; lia)
  exact ⟨_,rfl,by simp (disch:=first | decide | omega | assumption) only [stw,stc,Nat.reduceAdd,Nat.reduceSub,this]⟩
 have e1:dComp (iSeq (dVar 3)) [none] (bName 0) (dC (.bl true)) (dUn fStr (dVar 0)) [x0,some (.cel μ.length),some (.val (.int q.1)),some (.val (tu q.2))] (μ ++ [(true,.lst acc)]) = .ok (.val (.lst (q.2.map fun i => .str (ns i)))) (μ ++ [(true,.lst acc)]):=by
  generalize dUn fStr (dVar 0) = D at hc
  simp (disch:=first | decide | omega | assumption) only [stw,stc,Nat.reduceAdd,Nat.reduceSub,tu]
  rw [hc,R.calm_ok,R.bind_ok,if_pos (by rw [List.length_map,hl.len]; unfold szL; lia)]
 have ad:fAdd (.lst [.str (lt q.1)]) (.lst (q.2.map fun i => T.str (ns i))) = some (.lst (.str (lt q.1) :: q.2.map fun i => T.str (ns i))):=by
  rw [fAdd_lst _ _ (by rw [List.length_map,hl.len]; show 1 + w ≤ szL; unfold szL; lia)]; rfl
 have e2:=dMeth_at (g:=joinT) (a:=dC (.str " ")) (b:=dBin fAdd (dLst [(dIdx (dC (.str "abcdefghij")) (dVar 2))]) (dComp (iSeq (dVar 3)) [none] (bName 0) (dC (.bl true)) (dUn fStr (dVar 0)))) (e:=[x0,some (.cel μ.length),some (.val (.int q.1)),some (.val (tu q.2))]) (μ:=μ ++ [(true,.lst acc)]) (by simp (disch:=first | decide | omega | assumption) only [stw,stc,Nat.reduceAdd,Nat.reduceSub]) (by
  generalize dComp (iSeq (dVar 3)) [none] (bName 0) (dC (.bl true)) (dUn fStr (dVar 0)) = D at e1
  simp (disch:=first | decide | omega | assumption) only [stw,stc,Nat.reduceAdd,Nat.reduceSub,idxS_str,hI,e1,ad]) (row_join hp hl hw)
 unfold textB
 generalize dMeth joinT (dC (.str " ")) (dBin fAdd (dLst [(dIdx (dC (.str "abcdefghij")) (dVar 2))]) (dComp (iSeq (dVar 3)) [none] (bName 0) (dC (.bl true)) (dUn fStr (dVar 0)))) = D2 at e2
 simp (disch:=first | decide | omega | assumption) only [stw,stc,Nat.reduceAdd,Nat.reduceSub,hls,e2,hap]
theorem text_loop (hp:p ≤ 97) (hw:w ≤ 6) (x0:Option SV) (same:Store → Prop) (hs:∀ μ,same μ) (μ:Store):∀ (rows:Rows) (acc:List T) (x2 x3:Option SV),(∀ q ∈ rows,Rw p w q.2) → (∀ q ∈ rows,0 ≤ q.1 ∧ q.1 < 10) → acc.length + rows.length ≤ 20000 →
  ∃ y2 y3,forL same (bTup [2,3]) textB (rows.map rt) [x0,some (.cel μ.length),x2,x3] (μ ++ [(true,.lst acc)]) = .nx [x0,some (.cel μ.length),y2,y3] (μ ++ [(true,.lst (acc ++ rows.map fun q => .str (rtx q)))])
 | [],acc,x2,x3,_,_,_ => ⟨x2,x3,by
  rw [List.map_nil]
  unfold forL
  rw [if_pos (hs _),List.map_nil,List.append_nil]⟩
 | q :: rows,acc,x2,x3,h1,h2,hl => by
  have hb:=textB_ok hp (h1 q List.mem_cons_self) hw (h2 q List.mem_cons_self) x0 acc (by simp at hl; lia) μ
  obtain ⟨y2,y3,ih⟩:=text_loop hp hw x0 same hs μ rows (acc ++ [.str (rtx q)]) (some (.val (.int q.1))) (some (.val (tu q.2))) (fun x hx => h1 x (List.mem_cons_of_mem _ hx)) (fun x hx => h2 x (List.mem_cons_of_mem _ hx)) (by simp at hl ⊢; lia)
  refine ⟨y2,y3,?_⟩
  rw [List.map_cons]
  unfold forL
  rw [if_pos (hs _)]
  have eb:bTup [2,3] (rt q) [x0,some (.cel μ.length),x2,x3] = some [x0,some (.cel μ.length),some (.val (.int q.1)),some (.val (tu q.2))]:=by
   unfold rt
   rw [bTup_pair]; rfl
  rw [eb]
  simp only
  rw [hb]
  show forL same (bTup [2,3]) textB (rows.map rt) _ _ = _
  rw [ih,List.append_assoc]; rfl
theorem txt_join (h:Ok p w rows):joinT "; " (.lst (.str (ns p) :: .str (ns w) :: rows.map fun q => T.str (rtx q))) = some (.str (txt p w rows)):=by
 have:=join_of (sep:=sc) (ws:=ns p :: ns w :: rows.map rtx) (by rw [sc_len]; lia) (by rw [List.length_cons,List.length_cons,List.length_map]; have:=h.n; lia) fun v hv => (pieces h v hv).1
 rw [List.map_cons,List.map_cons,List.map_map] at this
 exact this
theorem text_ok (h:Ok p w rows) (μ:Store):fV__law_text [.val (F.tb p w rows)] μ = .ok (.val (.str (txt p w rows))) μ:=by
 have hp:=h.p97
 have hw:=h.w6
 obtain ⟨y2,y3,hf⟩:=text_loop hp.2 hw (some (.val (F.tb p w rows))) (fun _ => True) (fun _ => trivial) μ rows [.str (ns p),.str (ns w)] none none h.tb.li h.hd (by have:=h.n; simp; lia)
 have hj:=txt_join h
 have s1:=fStr_ns (i:=p) (by lia) (by lia)
 have s2:=fStr_ns (i:=(w:Int)) (by lia) (by lia)
 have e1:dMeth joinT (dC (.str "; ")) (dVar 1) [some (.val (F.tb p w rows)),some (.cel μ.length),y2,y3] (μ ++ [(true,.lst (.str (ns p) :: .str (ns w) :: rows.map fun q => .str (rtx q)))]) = .ok (.val (.str (txt p w rows))) (μ ++ [(true,.lst (.str (ns p) :: .str (ns w) :: rows.map fun q => .str (rtx q)))]):=by
  rw [dMeth_is]
  simp (disch:=first | decide | omega | assumption) only [stw,stc,Nat.reduceAdd,Nat.reduceSub,asStr_str,st_get0]
  rw [hj]; rfl
 unfold fV__law_text
 rw [show b__law_text = (sSeq (sSet 1 (dCell (dLst [(dUn fStr (dIdx (dVar 0) (dC (.int 0)))),(dUn fStr (dIdx (dVar 0) (dC (.int 1))))])))
 (sSeq (sFor (iSeq (dIdx (dVar 0) (dC (.int 2)))) (bTup [2,3]) textB)
 (sRet (dMeth joinT (dC (.str "; ")) (dVar 1))))) from rfl]
 generalize dMeth joinT (dC (.str "; ")) (dVar 1) = D at e1
 unfold F.tb at *
 simp (disch:=first | decide | omega | assumption) only [stw,stc,Nat.reduceAdd,Nat.reduceSub,s1,s2]
 rw [hf]
 simp (disch:=first | decide | omega | assumption) only [stw,stc,Nat.reduceAdd,Nat.reduceSub,e1]
 rw [List.take_left]
theorem words_ok {q:Int × List Int} (hp:p ≤ 97) (hl:Rw p w q.2) (hw:w ≤ 6) (μ:Store):fV_show_words [.val (.lst (.str (lt q.1) :: q.2.map T.int))] μ = .ok (.val (.str (rtx q))) μ:=by
 have hc:=compL_ofA (same:=fun _ => True) (b:=bName 0) (d:=dUn fStrA (dVar 0)) (e:=[none]) (μ:=μ) T.int (fun i => .str (ns i)) trivial q.2 fun i hi => by
  have:=fStrA_ns (hl.lo i hi) (by have:=hl.hi i hi; lia)
  exact ⟨_,rfl,by simp (disch:=first | decide | omega | assumption) only [stw,stc,Nat.reduceAdd,Nat.reduceSub,this]⟩
 have e0:fStrA (.str (lt q.1)) = some (.str (lt q.1)):=rfl
 have hc1:compL (fun _ => True) (bName 0) (dC (.bl true)) (dUn fStrA (dVar 0)) [none] (.str (lt q.1) :: q.2.map T.int) μ = .ok (.str (lt q.1) :: q.2.map fun i => .str (ns i)) μ:=by
  unfold compL
  rw [if_pos trivial]
  have:dUn fStrA (dVar 0) [some (.val (.str (lt q.1)))] μ = .ok (.val (.str (lt q.1))) μ:=by simp (disch:=first | decide | omega | assumption) only [stw,stc,Nat.reduceAdd,Nat.reduceSub,e0]
  generalize dUn fStrA (dVar 0) = D at *
  simp (disch:=first | decide | omega | assumption) only [stw,stc,Nat.reduceAdd,Nat.reduceSub,this,hc]
 have e1:dComp (iSeq (dVar 0)) [none] (bName 0) (dC (.bl true)) (dUn fStrA (dVar 0)) [some (.val (.lst (.str (lt q.1) :: q.2.map T.int)))] μ = .ok (.val (.lst (.str (lt q.1) :: q.2.map fun i => .str (ns i)))) μ:=by
  generalize dUn fStrA (dVar 0) = D at hc1
  simp (disch:=first | decide | omega | assumption) only [stw,stc,Nat.reduceAdd,Nat.reduceSub]
  rw [hc1,R.calm_ok,R.bind_ok,if_pos (by rw [List.length_map,hl.len]; unfold szL; lia)]
 have e2:=dMeth_at (g:=joinT) (a:=dC (.str " ")) (b:=dComp (iSeq (dVar 0)) [none] (bName 0) (dC (.bl true)) (dUn fStrA (dVar 0))) (e:=[some (.val (.lst (.str (lt q.1) :: q.2.map T.int)))]) (μ:=μ) (by simp (disch:=first | decide | omega | assumption) only [stw,stc,Nat.reduceAdd,Nat.reduceSub]) e1 (row_join hp hl hw)
 unfold fV_show_words b_show_words
 generalize dMeth joinT (dC (.str " ")) (dComp (iSeq (dVar 0)) [none] (bName 0) (dC (.bl true)) (dUn fStrA (dVar 0))) = D at e2
 simp (disch:=first | decide | omega | assumption) only [stw,stc,Nat.reduceAdd,Nat.reduceSub,e2]
theorem show_row {q:Int × List Int} (hp:p ≤ 97) (hl:Rw p w q.2) (hw:w ≤ 6) (hh:0 ≤ q.1 ∧ q.1 < 10) (μ:Store):fV_show_row [.val (rt q)] μ = .ok (.val (.str (rtx q))) μ:=by
 have hI:=letter "abcdefghijklmnopqrstuvwxyz" (by decide +kernel) (by decide +kernel) hh
 have ad:fAdd (.lst [.str (lt q.1)]) (.lst (q.2.map T.int)) = some (.lst (.str (lt q.1) :: q.2.map T.int)):=by
  rw [fAdd_lst _ _ (by rw [List.length_map,hl.len]; show 1 + w ≤ szL; unfold szL; lia)]; rfl
 have hL:fList (.tup (q.2.map T.int)) = some (.lst (q.2.map T.int)):=rfl
 have e:=words_ok hp hl hw μ
 unfold fV_show_row b_show_row rt tu
 simp (disch:=first | decide | omega | assumption) only [stw,stc,Nat.reduceAdd,Nat.reduceSub,idxS_str,hI,hL,ad,e]
theorem show_ok (h:Ok p w rows) (μ:Store):fV_show_table [.val (F.tb p w rows)] μ = .ok (.val (.str (txt p w rows))) μ:=by
 have hp:=h.p97
 have hw:=h.w6
 have s1:=fStr_ns (i:=p) (by lia) (by lia)
 have s2:=fStr_ns (i:=(w:Int)) (by lia) (by lia)
 have hc:=compL_ofA (same:=fun _ => True) (b:=bName 0) (d:=dCall (cal fV_show_row) [(dVar 0)]) (e:=[none]) (μ:=μ) rt (fun q => .str (rtx q)) trivial rows fun q hq => by
  have:=show_row hp.2 (h.tb.li q hq) hw (h.hd q hq) μ
  exact ⟨_,rfl,by simp (disch:=first | decide | omega | assumption) only [stw,stc,Nat.reduceAdd,Nat.reduceSub,this]⟩
 have e1:dComp (iSeq (dIdx (dVar 0) (dC (.int 2)))) [none] (bName 0) (dC (.bl true)) (dCall (cal fV_show_row) [(dVar 0)]) [some (.val (.tup [.int p,.int w,.tup (rows.map rt)]))] μ = .ok (.val (.lst (rows.map fun q => .str (rtx q)))) μ:=by
  generalize dCall (cal fV_show_row) [(dVar 0)] = D at hc
  simp (disch:=first | decide | omega | assumption) only [stw,stc,Nat.reduceAdd,Nat.reduceSub]
  rw [hc,R.calm_ok,R.bind_ok,if_pos (by rw [List.length_map]; have:=h.n; unfold szL; lia)]
 have ad:fAdd (.lst [.str (ns p),.str (ns w)]) (.lst (rows.map fun q => T.str (rtx q))) = some (.lst (.str (ns p) :: .str (ns w) :: rows.map fun q => T.str (rtx q))):=by
  rw [fAdd_lst _ _ (by rw [List.length_map]; have:=h.n; show 2 + _ ≤ szL; unfold szL; lia)]; rfl
 have e2:=dMeth_at (g:=joinT) (a:=dC (.str "; ")) (b:=dBin fAdd (dLst [(dUn fStr (dIdx (dVar 0) (dC (.int 0)))),(dUn fStr (dIdx (dVar 0) (dC (.int 1))))]) (dComp (iSeq (dIdx (dVar 0) (dC (.int 2)))) [none] (bName 0) (dC (.bl true)) (dCall (cal fV_show_row) [(dVar 0)]))) (e:=[some (.val (.tup [.int p,.int w,.tup (rows.map rt)]))]) (μ:=μ) (by simp (disch:=first | decide | omega | assumption) only [stw,stc,Nat.reduceAdd,Nat.reduceSub]) (by
  generalize dComp (iSeq (dIdx (dVar 0) (dC (.int 2)))) [none] (bName 0) (dC (.bl true)) (dCall (cal fV_show_row) [(dVar 0)]) = D at e1
  simp (disch:=first | decide | omega | assumption) only [stw,stc,Nat.reduceAdd,Nat.reduceSub,s1,s2,e1,ad]) (txt_join h)
 unfold fV_show_table b_show_table F.tb
 generalize dMeth joinT (dC (.str "; ")) (dBin fAdd (dLst [(dUn fStr (dIdx (dVar 0) (dC (.int 0)))),(dUn fStr (dIdx (dVar 0) (dC (.int 1))))]) (dComp (iSeq (dIdx (dVar 0) (dC (.int 2)))) [none] (bName 0) (dC (.bl true)) (dCall (cal fV_show_row) [(dVar 0)]))) = D at e2
 simp (disch:=first | decide | omega | assumption) only [stw,stc,Nat.reduceAdd,Nat.reduceSub,e2]
end Fw.k91
namespace Fw.k91
open PySem Fw Fw.H Fw.E Fw.U Fw.F
theorem trav_inv {f:Str → Option T}:∀ (ws:List Str) {ts:List T},trav f ws = some ts → ts.length = ws.length ∧ ∀ t ∈ ts,∃ w ∈ ws,f w = some t
 | [],ts,h => by cases h; exact ⟨rfl,fun t ht => by cases ht⟩
 | w :: ws,ts,h => by
  unfold trav at h
  cases h1:f w with
  | none => rw [h1] at h; cases h
  | some t =>
   rw [h1] at h
   cases h2:trav f ws with
   | none => rw [h2] at h; cases h
   | some us =>
    rw [h2] at h
    cases h
    obtain ⟨a,b⟩:=trav_inv ws h2
    refine ⟨by rw [List.length_cons,List.length_cons,a],fun x hx => ?_⟩
    rcases List.mem_cons.mp hx with rfl | hx
    ·exact ⟨w,List.mem_cons_self,h1⟩
    ·obtain ⟨v,hv,e⟩:=b x hx
     exact ⟨v,List.mem_cons_of_mem _ hv,e⟩
theorem lift_map {α:Type} {f:α → T} {P:α → Prop}:∀ (ts:List T),(∀ t ∈ ts,∃ a,t = f a ∧ P a) → ∃ as:List α,ts = as.map f ∧ ∀ a ∈ as,P a
 | [],_ => ⟨[],rfl,fun a h => by cases h⟩
 | t :: ts,h => by
  obtain ⟨a,rfl,ha⟩:=h t List.mem_cons_self
  obtain ⟨as,rfl,has⟩:=lift_map ts fun x hx => h x (List.mem_cons_of_mem _ hx)
  exact ⟨a :: as,rfl,fun x hx => by
   rcases List.mem_cons.mp hx with rfl | hx
   ·exact ha
   ·exact has x hx⟩
theorem hnd_inv {x:Str} {t:T} (h:hnd x = some t):∃ k:Int,t = .int k ∧ 0 ≤ k ∧ k < 10:=by
 unfold hnd at h
 split at h
 ·rename_i c hc
  split at h
  ·rename_i z
   cases h
   have:∀ c ∈ lts,97 ≤ c ∧ c < 107:=by decide
   have:=this c z
   exact ⟨_,rfl,by lia,by lia⟩
  ·cases h
 ·cases h
structure Good (p:Int) (w:Nat) (rows:Rows):Prop where
 p0:2 ≤ p
 p1:p ≤ 97
 w1:w ≤ 12
 n:rows.length ≤ 24
 li:∀ q ∈ rows,Rw p w q.2 ∧ 0 ≤ q.1 ∧ q.1 < 10
theorem row_inv {p:Int} {w:Nat} {t:Str} {r:T} (h:rowV p w t = some r):∃ q:Int × List Int,r = rt q ∧ Rw p w q.2 ∧ 0 ≤ q.1 ∧ q.1 < 10:=by
 obtain ⟨x,ws,hs,_⟩:=split_specS t " "
 rw [rowV_of hs] at h
 by_cases hw:(ws.length:Int) = w
 ·rw [if_pos hw] at h
  cases h1:hnd x with
  | none => rw [h1] at h; cases h
  | some a =>
   rw [h1] at h
   cases h2:trav (fun v => rng v 0 (p - 1)) ws with
   | none => rw [h2] at h; cases h
   | some ts =>
    rw [h2] at h
    cases h
    obtain ⟨k,rfl,k0,k1⟩:=hnd_inv h1
    obtain ⟨hl,hm⟩:=trav_inv ws h2
    obtain ⟨l,rfl,hL⟩:=lift_map (f:=T.int) (P:=fun i => 0 ≤ i ∧ i < p) ts fun t ht => by
     obtain ⟨v,_,e⟩:=hm t ht
     unfold rng at e
     split at e
     ·rename_i q
      cases e
      exact ⟨_,rfl,q.2.1,by have:=q.2.2; lia⟩
     ·cases e
    rw [List.length_map] at hl
    exact ⟨(k,l),rfl,⟨by show l.length = w; lia,fun x hx => (hL x hx).1,fun x hx => (hL x hx).2⟩,k0,k1⟩
 ·rw [if_neg hw] at h; cases h
theorem tab_inv {t:Str} {u:T} (h:tabV t = some u):∃ p w rows,u = tb p w rows ∧ Good p w rows:=by
 unfold tabV at h
 split at h
 ·rename_i a b rs hs
  split at h
  ·rename_i c
   obtain ⟨ts,hts,rfl⟩:=Option.map_eq_some_iff.mp h
   obtain ⟨hl,hm⟩:=trav_inv rs hts
   obtain ⟨rows,rfl,hR⟩:=lift_map (f:=rt) (P:=fun q => Rw (val a) (val b) q.2 ∧ 0 ≤ q.1 ∧ q.1 < 10) ts fun t ht => by
    obtain ⟨v,_,e⟩:=hm t ht
    obtain ⟨q,e1,e2⟩:=row_inv e
    exact ⟨q,e1,e2⟩
   rw [List.length_map] at hl
   have hp:=ln_rdp c.2.1
   have hp2:2 ≤ val a:=by
    have:=c.2.1
    unfold rdp at this
    split at this
    ·rename_i q
     have h2:=q.2
     unfold prm at h2
     simp only [Bool.and_eq_true,decide_eq_true_eq] at h2
     exact h2.1.1
    ·cases this
   have hw:val b ≤ 12:=by
    have:=c.2.2
    unfold rng at this
    split at this
    ·rename_i q
     have:=q.2.2
     lia
    ·cases this
   exact ⟨val a,val b,rows,rfl,by lia,by lia,hw,by rw [hl]; exact c.1,hR⟩
  ·cases h
 ·cases h
variable {p:Int} {w:Nat} {rows:Rows}
theorem whole_ok {k b:Int} (h0:0 ≤ k) (h1:k < b) (μ:Store):fV__law_whole [.val (.int k),.val (.int b)] μ = .ok (.val (.bl true)) μ:=by
 have e4:dChain fLe fLt (dC (.int 0)) (dVar 0) (dVar 1) [some (.val (.int k)),some (.val (.int b))] μ = .ok (.val (.bl true)) μ:=by
  have z0:decide (0 ≤ k) = true:=decide_eq_true h0
  have z1:decide (k < b) = true:=decide_eq_true h1
  rw [dChain_is]
  simp (disch:=first | decide | omega | assumption) only [stw,stc,Nat.reduceAdd,Nat.reduceSub,z0,z1]
 unfold fV__law_whole b__law_whole
 generalize dChain fLe fLt (dC (.int 0)) (dVar 0) (dVar 1) = D at e4
 simp (disch:=first | decide | omega | assumption) only [stw,stc,Nat.reduceAdd,Nat.reduceSub,dIs_is,isS_val,isT_int,isK,e4]
noncomputable def isB:DS:=(sSeq (sIf (dOr (dNot (dIs .tuple (dVar 1))) (dOr (dNot (dIs .tuple (dIdx (dVar 1) (dC (.int 1))))) (dNot (dCall (cal fV__law_whole) [(dIdx (dVar 1) (dC (.int 0))),(dC (.int 10))])))) (sRet (dC (.bl false))) sNil)
 (sIf (dNot (dUn fAll (dComp (iSeq (dIdx (dVar 1) (dC (.int 1)))) [none,some 0] (bName 0) (dC (.bl true)) (dCall (cal fV__law_whole) [(dVar 0),(dIdx (dVar 1) (dC (.int 0)))])))) (sRet (dC (.bl false))) sNil))
theorem isB_ok (u v:T) {q:Int × List Int} (hq:Rw p w q.2 ∧ 0 ≤ q.1 ∧ q.1 < 10) (hw:w ≤ 12) (μ:Store):isB [some (.val (.tup [.int p,u,v])),some (.val (rt q))] μ = .nx [some (.val (.tup [.int p,u,v])),some (.val (rt q))] μ:=by
 obtain ⟨hl,h0,h1⟩:=hq
 have hc:=compL_ofA (same:=fun _ => True) (b:=bName 0) (d:=dCall (cal fV__law_whole) [(dVar 0),(dIdx (dVar 1) (dC (.int 0)))]) (e:=[none,some (.val (.tup [.int p,u,v]))]) (μ:=μ) T.int (fun _ => .bl true) trivial q.2 fun i hi => by
  have:=whole_ok (hl.lo i hi) (hl.hi i hi) μ
  exact ⟨_,rfl,by simp (disch:=first | decide | omega | assumption) only [stw,stc,Nat.reduceAdd,Nat.reduceSub,this]⟩
 have e1:dUn fAll (dComp (iSeq (dIdx (dVar 1) (dC (.int 1)))) [none,some 0] (bName 0) (dC (.bl true)) (dCall (cal fV__law_whole) [(dVar 0),(dIdx (dVar 1) (dC (.int 0)))])) [some (.val (.tup [.int p,u,v])),some (.val (.tup [.int q.1,.tup (q.2.map T.int)]))] μ = .ok (.val (.bl true)) μ:=by
  have:dComp (iSeq (dIdx (dVar 1) (dC (.int 1)))) [none,some 0] (bName 0) (dC (.bl true)) (dCall (cal fV__law_whole) [(dVar 0),(dIdx (dVar 1) (dC (.int 0)))]) [some (.val (.tup [.int p,u,v])),some (.val (.tup [.int q.1,.tup (q.2.map T.int)]))] μ = .ok (.val (.lst (q.2.map fun _ => .bl true))) μ:=by
   generalize dCall (cal fV__law_whole) [(dVar 0),(dIdx (dVar 1) (dC (.int 0)))] = D at hc
   simp (disch:=first | decide | omega | assumption) only [stw,stc,Nat.reduceAdd,Nat.reduceSub]
   rw [hc,R.calm_ok,R.bind_ok,if_pos (by rw [List.length_map,hl.len]; unfold szL; lia)]
  rw [dUn_is,this,R.bind_ok,rd_val,ap1_some,fAll_map (fun _ => true)]
  simp
 have e2:=whole_ok h0 h1 μ
 unfold isB rt tu
 generalize dUn fAll (dComp (iSeq (dIdx (dVar 1) (dC (.int 1)))) [none,some 0] (bName 0) (dC (.bl true)) (dCall (cal fV__law_whole) [(dVar 0),(dIdx (dVar 1) (dC (.int 0)))])) = D at e1
 simp (disch:=first | decide | omega | assumption) only [stw,stc,Nat.reduceAdd,Nat.reduceSub,dIs_is,isS_val,isT_tup,isK,e1,e2]
theorem is_loop (u v:T) (hw:w ≤ 12) (same:Store → Prop) (hs:∀ μ,same μ) (μ:Store):∀ (rows:Rows) (x1:Option SV),(∀ q ∈ rows,Rw p w q.2 ∧ 0 ≤ q.1 ∧ q.1 < 10) →
  ∃ y,forL same (bName 1) isB (rows.map rt) [some (.val (.tup [.int p,u,v])),x1] μ = .nx [some (.val (.tup [.int p,u,v])),y] μ
 | [],x1,_ => ⟨x1,by
  rw [List.map_nil]
  unfold forL
  rw [if_pos (hs _)]⟩
 | q :: rows,x1,h => by
  have hb:=isB_ok u v (h q List.mem_cons_self) hw μ
  obtain ⟨y,ih⟩:=is_loop u v hw same hs μ rows (some (.val (rt q))) fun x hx => h x (List.mem_cons_of_mem _ hx)
  refine ⟨y,?_⟩
  rw [List.map_cons]
  unfold forL
  rw [if_pos (hs _)]
  simp only [bName_is,List.set_cons_succ,List.set_cons_zero]
  rw [hb]
  exact ih
theorem is_ok (h:Good p w rows) (μ:Store):fV__law_is [.val (tb p w rows)] μ = .ok (.val (.bl true)) μ:=by
 have h0:=h.p0
 have h1:=h.p1
 have h2:=h.w1
 obtain ⟨y,hf⟩:=is_loop (.int w) (.tup (rows.map rt)) h.w1 (fun _ => True) (fun _ => trivial) μ rows none h.li
 have e1:=whole_ok (k:=p) (b:=98) (by lia) (by lia) μ
 have e2:=whole_ok (k:=(w:Int)) (b:=13) (by lia) (by lia) μ
 unfold fV__law_is
 rw [show b__law_is = (sSeq (sIf (dOr (dNot (dIs .tuple (dVar 0))) (dOr (dBin fNe (dLen (dVar 0)) (dC (.int 3))) (dNot (dIs .tuple (dIdx (dVar 0) (dC (.int 2))))))) (sRet (dC (.bl false))) sNil)
 (sSeq (sFor (iSeq (dIdx (dVar 0) (dC (.int 2)))) (bName 1) isB)
 (sRet (dAnd (dCall (cal fV__law_whole) [(dIdx (dVar 0) (dC (.int 0))),(dC (.int 98))]) (dCall (cal fV__law_whole) [(dIdx (dVar 0) (dC (.int 1))),(dC (.int 13))]))))) from rfl]
 unfold tb
 have l3:(((3:Nat):Int) == 3) = true:=rfl
 simp (disch:=first | decide | omega | assumption) only [stw,stc,Nat.reduceAdd,Nat.reduceSub,dIs_is,isS_val,isT_tup,isK,l3]
 rw [hf]
 simp (disch:=first | decide | omega | assumption) only [stw,stc,Nat.reduceAdd,Nat.reduceSub,e1,e2]
theorem tb_okT:okT 100 (tb p w rows) = true:=by
 unfold tb
 rw [okT_tup]
 have:okT 99 (.tup (rows.map rt)) = true:=by
  rw [okT_tup]
  refine (okTs_iff 98 _).mpr fun x hx => ?_
  obtain ⟨q,_,rfl⟩:=List.mem_map.mp hx
  unfold rt tu
  rw [okT_tup]
  simp
 simp [this]
theorem none_ok:okT 100 (.str "none") = true:=ok_word (by decide +kernel)
theorem none_eq:(("none":Str) == "none") = true:=by decide +kernel
theorem tb_ne:fNe (tb p w rows) (tb p w rows) = some (.bl false):=by
 rw [fNe_ok tb_okT tb_okT,eqT_refl 100 _ tb_okT]; rfl
theorem tb_non:fNe (tb p w rows) (.str "none") = some (.bl true):=by
 rw [fNe_ok tb_okT none_ok]; unfold tb eqT; rfl
theorem cell_ok (ns:List Int) (k:Int) (h0:0 ≤ k) (h1:k ≤ 1000):∃ c,∀ μ,fV__law_cell [.val (.lst (ns.map T.int)),.val (.int k)] μ = .ok (.val (.int c)) μ:=K.cell_ok ns k h0 h1
theorem p_ok (c:Int):∃ p,IsPr p ∧ ∀ μ,fV__law_p [.val (.int c)] μ = .ok (.val (.int p)) μ:=K.p_ok c
theorem table_ok (ns:List Int) {p:Int} (hP:IsPr p) (μ:Store):∃ (w:Nat) (rows:Rows),fV__law_table [.val (.lst (ns.map T.int)),.val (.int 10),.val (.int p)] μ = .ok (.val (tb p w rows)) μ ∧ Tbl p w rows ∧ w ≤ 6 ∧ rows.length ≤ 11 ∧ ∀ q ∈ rows,0 ≤ q.1 ∧ q.1 < 5:=K.table_ok ns hP 10 (by lia) μ
theorem pow9:fPow (.int 10) (.int 9) = some (.int 1000000000):=by
 show (if (0:Int) ≤ 9 ∧ (9:Int) ≤ 1000 ∧ -(2 ^ 64) < (10:Int) ∧ (10:Int) < 2 ^ 64 then some (T.int ((10:Int) ^ (9:Int).toNat)) else none) = _
 rw [if_pos (by decide)]; rfl
theorem pow8:fPow (.int 10) (.int 8) = some (.int 100000000):=by
 show (if (0:Int) ≤ 8 ∧ (8:Int) ≤ 1000 ∧ -(2 ^ 64) < (10:Int) ∧ (10:Int) < 2 ^ 64 then some (T.int ((10:Int) ^ (8:Int).toNat)) else none) = _
 rw [if_pos (by decide)]; rfl
noncomputable def tryB:DS:=(sSeq (sSet 6 (dBin fMod (dCall (cal fV__law_cell) [(dVar 0),(dBin fAdd (dC (.int 30)) (dVar 5))]) (dBin fPow (dC (.int 10)) (dC (.int 9)))))
 (sSeq (sSet 7 (dCall (cal fV__law_spoilt) [(dVar 3),(dVar 6)]))
 (sSeq (sSet 4 (dCall (cal fV__law_read) [(dVar 7),(dBin fEq (dBin fMod (dBin fDiv (dVar 6) (dBin fPow (dC (.int 10)) (dC (.int 8)))) (dC (.int 2))) (dC (.int 0)))]))
 (sIf (dOr (dBin fNe (dVar 4) (dCall (cal fV__law_due) [(dVar 7)])) (dAnd (dBin fNe (dVar 4) (dC (.str "none"))) (dNot (dCall (cal fV__law_is) [(dVar 4)])))) (sRet (dC (.bl false))) sNil))))
theorem tryB_ok (ns:List Int) {t:Str} (ht:Bt 900 t) (k:Int) (h0:0 ≤ k) (h1:k < 6) (x1 x2 x4 x6 x7 x8:Option SV) (μ:Store):∃ y4 y6 y7,
  tryB [some (.val (.lst (ns.map T.int))),x1,x2,some (.val (.str t)),x4,some (.val (.int k)),x6,x7,x8] μ =
  .nx [some (.val (.lst (ns.map T.int))),x1,x2,some (.val (.str t)),y4,some (.val (.int k)),y6,y7,x8] μ:=by
 obtain ⟨c,hc⟩:=cell_ok ns (30 + k) (by lia) (by lia)
 have m1:fMod (.int c) (.int 1000000000) = some (.int (c % 1000000000)):=fMod_int _ _ (by lia)
 have q0:=Int.emod_nonneg c (show (1000000000:Int) ≠ 0 by lia)
 generalize c % 1000000000 = a at m1 q0
 obtain ⟨u,hu,e1⟩:=spoilt_ok ht q0 μ
 have hul:u.length ≤ 2000000:=by have:=hu.1; lia
 have e2:=due_ok hul hu.2 μ
 have e3:=read_of (rtX_ok hul μ) (a / 100000000 % 2 == 0)
 have p9:=pow9
 have p8:=pow8
 have z:=none_eq
 refine ⟨some (.val (told (tabV u))),some (.val (.int a)),some (.val (.str u)),?_⟩
 unfold tryB
 cases hd:tabV u with
 | none =>
  rw [hd] at e2 e3
  have e2:fV__law_due [.val (.str u)] μ = .ok (.val (.str "none")) μ:=e2
  have e3:fV__law_read [.val (.str u),.val (.bl (a / 100000000 % 2 == 0))] μ = .ok (.val (.str "none")) μ:=e3
  show _ = RS.nx [_,_,_,_,some (.val (.str "none")),_,_,_,_] μ
  simp (disch:=first | decide | omega | assumption) only [stw,stc,Nat.reduceAdd,Nat.reduceSub,hc μ,p9,m1,e1,e2,p8,e3,z]
 | some v =>
  rw [hd] at e2 e3
  obtain ⟨p,w,rows,rfl,hG⟩:=tab_inv hd
  have e2:fV__law_due [.val (.str u)] μ = .ok (.val (tb p w rows)) μ:=e2
  have e3:fV__law_read [.val (.str u),.val (.bl (a / 100000000 % 2 == 0))] μ = .ok (.val (tb p w rows)) μ:=e3
  have e4:=is_ok hG μ
  have n1:=tb_ne (p:=p) (w:=w) (rows:=rows)
  have n2:=tb_non (p:=p) (w:=w) (rows:=rows)
  show _ = RS.nx [_,_,_,_,some (.val (tb p w rows)),_,_,_,_] μ
  generalize tb p w rows = W at *
  simp (disch:=first | decide | omega | assumption) only [stw,stc,Nat.reduceAdd,Nat.reduceSub,hc μ,p9,m1,e1,e2,p8,e3,n1,n2,e4]
theorem odd_bad:(tabV "").isNone = true ∧ (tabV "5").isNone = true ∧ (tabV "4; 1").isNone = true ∧ (tabV "5; 0").isNone = true ∧ (tabV "5; 13").isNone = true ∧ (tabV "1; 1").isNone = true:=by decide +kernel
theorem read_bad {t:T} (h:isT .str t = some (.bl false)) (μ:Store) (b:Bool):fV__law_read [.val t,.val (.bl b)] μ = .ok (.val (.str "none")) μ:=read_of (r:=none) (rtX_bad h μ) b
theorem read_none {t:Str} (hl:t.length ≤ 2000000) (h:(tabV t).isNone = true) (μ:Store) (b:Bool):fV__law_read [.val (.str t),.val (.bl b)] μ = .ok (.val (.str "none")) μ:=by
 have e:=rtX_ok hl μ
 rw [Option.isNone_iff_eq_none.mp h] at e
 exact read_of (r:=none) e b
noncomputable def odds (t:Str) (u:T):List T:=[.non,.int 5,.bl true,.lst [.str t],u,.str "",.str "5",.str "4; 1",.str "5; 0",.str "5; 13",.str "1; 1"]
theorem odd_all (t:Str) (p:Int) (w:Nat) (rows:Rows) (μ:Store):∀ x ∈ odds t (tb p w rows),∀ b:Bool,fV__law_read [.val x,.val (.bl b)] μ = .ok (.val (.str "none")) μ:=by
 obtain ⟨n1,n2,n3,n4,n5,n6⟩:=odd_bad
 intro x hx
 unfold odds at hx
 simp only [List.mem_cons,List.not_mem_nil,or_false] at hx
 rcases hx with rfl | rfl | rfl | rfl | rfl | rfl | rfl | rfl | rfl | rfl | rfl
 ·exact read_bad rfl μ
 ·exact read_bad rfl μ
 ·exact read_bad rfl μ
 ·exact read_bad rfl μ
 ·exact read_bad rfl μ
 ·exact read_none (by decide +kernel) n1 μ
 ·exact read_none (by decide +kernel) n2 μ
 ·exact read_none (by decide +kernel) n3 μ
 ·exact read_none (by decide +kernel) n4 μ
 ·exact read_none (by decide +kernel) n5 μ
 ·exact read_none (by decide +kernel) n6 μ
theorem s7_ok (ns:List Int) (t:Str) (p:Int) (w:Nat) (rows:Rows) (x2 x4 x5 x6 x7 x8:Option SV) (μ:Store):∃ o,(∀ b:Bool,fV__law_read [.val o,.val (.bl b)] μ = .ok (.val (.str "none")) μ) ∧
  law_s7 [some (.val (.lst (ns.map T.int))),some (.val (tb p w rows)),x2,some (.val (.str t)),x4,x5,x6,x7,x8] μ = .nx [some (.val (.lst (ns.map T.int))),some (.val (tb p w rows)),x2,some (.val (.str t)),x4,x5,x6,x7,some (.val o)] μ:=by
 obtain ⟨c,hc⟩:=cell_ok ns 40 (by lia) (by lia)
 have q0:=Int.emod_nonneg c (show (11:Int) ≠ 0 by lia)
 have q1:=Int.emod_lt_of_pos c (show (0:Int) < 11 by lia)
 obtain ⟨o,e,hm⟩:∃ o,atI (odds t (tb p w rows)) (c % 11) = some o ∧ o ∈ odds t (tb p w rows):=by
  have:=atI_map (xs:=odds t (tb p w rows)) (f:=id) q0 q1
  rw [List.map_id] at this
  exact ⟨_,this,List.getElem_mem _⟩
 refine ⟨o,odd_all t p w rows μ o hm,?_⟩
 unfold law_s7
 unfold odds at e
 generalize tb p w rows = W at *
 simp (disch:=first | decide | omega | assumption) only [stw,stc,Nat.reduceAdd,Nat.reduceSub,hc μ,e]
theorem shift_ok (ns:List Int) (m:Int) (w:Nat) (rows:Rows) (hn:rows.length ≤ 24) (x0 x3 x4 x5 x6 x7 x8:Option SV) (p:Int) (μ:Store) :
  law_s2 [x0,some (.val (tb p w rows)),some (.val (.int m)),x3,x4,x5,x6,x7,x8] μ = .nx [x0,some (.val (tb p w (rows.map fun q => (q.1 + m,q.2)))),some (.val (.int m)),x3,x4,x5,x6,x7,x8] μ:=by
 have hc:=compL_ofA (same:=fun _ => True) (b:=bTup [0,1]) (d:=dTup [(dBin fAdd (dVar 0) (dVar 2)),(dVar 1)]) (e:=[none,none,some (.val (.int m))]) (μ:=μ) rt (fun q => rt (q.1 + m,q.2)) trivial rows fun q hq => by
  refine ⟨[some (.val (.int q.1)),some (.val (tu q.2)),some (.val (.int m))],?_,?_⟩
  ·unfold rt; rw [bTup_pair]; rfl
  ·unfold rt; simp (disch:=first | decide | omega | assumption) only [stw,stc,Nat.reduceAdd,Nat.reduceSub]
 have e1:dComp (iSeq (dIdx (dVar 1) (dC (.int 2)))) [none,none,some 2] (bTup [0,1]) (dC (.bl true)) (dTup [(dBin fAdd (dVar 0) (dVar 2)),(dVar 1)]) [x0,some (.val (.tup [.int p,.int w,.tup (rows.map rt)])),some (.val (.int m)),x3,x4,x5,x6,x7,x8] μ = .ok (.val (.lst (rows.map fun q => rt (q.1 + m,q.2)))) μ:=by
  generalize dTup [(dBin fAdd (dVar 0) (dVar 2)),(dVar 1)] = D at hc
  simp (disch:=first | decide | omega | assumption) only [stw,stc,Nat.reduceAdd,Nat.reduceSub]
  rw [hc,R.calm_ok,R.bind_ok,if_pos (by rw [List.length_map]; unfold szL; lia)]
 unfold law_s2 tb
 generalize dComp (iSeq (dIdx (dVar 1) (dC (.int 2)))) [none,none,some 2] (bTup [0,1]) (dC (.bl true)) (dTup [(dBin fAdd (dVar 0) (dVar 2)),(dVar 1)]) = D at e1
 simp (disch:=first | decide | omega | assumption) only [stw,stc,Nat.reduceAdd,Nat.reduceSub,e1,List.map_map]
 rfl
theorem holds:∀ ns:List Int,ns.length ≤ 63 → ∃ μ',fV_law [.val (.lst (ns.map T.int))] [] = .ok (.val (.bl true)) μ':=by
 intro ns _
 obtain ⟨c0,hc0⟩:=cell_ok ns 0 (by lia) (by lia)
 obtain ⟨c1,hc1⟩:=cell_ok ns 1 (by lia) (by lia)
 obtain ⟨p,hP,hp⟩:=p_ok c0
 obtain ⟨w,rows,ht,hT,hw6,hn,hh⟩:=table_ok ns hP []
 obtain ⟨m,hm,m0,m1⟩:∃ m:Int,fMod (.int c1) (.int 6) = some (.int m) ∧ 0 ≤ m ∧ m < 6:=⟨c1 % 6,fMod_int _ _ (by lia),Int.emod_nonneg _ (by lia),Int.emod_lt_of_pos _ (by lia)⟩
 have h0:law_s0 [some (.val (.lst (ns.map T.int))),none,none,none,none,none,none,none,none] [] = .nx [some (.val (.lst (ns.map T.int))),some (.val (tb p w rows)),none,none,none,none,none,none,none] []:=by
  unfold law_s0
  simp (disch:=first | decide | omega | assumption) only [stw,stc,Nat.reduceAdd,Nat.reduceSub,hc0 [],hp [],ht]
 have h1:law_s1 [some (.val (.lst (ns.map T.int))),some (.val (tb p w rows)),none,none,none,none,none,none,none] [] = .nx [some (.val (.lst (ns.map T.int))),some (.val (tb p w rows)),some (.val (.int m)),none,none,none,none,none,none] []:=by
  unfold law_s1
  simp (disch:=first | decide | omega | assumption) only [stw,stc,Nat.reduceAdd,Nat.reduceSub,hc1 [],hm]
 have h2:=shift_ok ns m w rows (by lia) (some (.val (.lst (ns.map T.int)))) none none none none none none p []
 have hO:Ok p w (rows.map fun q => (q.1 + m,q.2)):=⟨⟨hT.pr,hT.w0,hT.w1,by rw [List.length_map]; exact hT.n,fun q hq => by
   obtain ⟨r,hr,rfl⟩:=List.mem_map.mp hq
   exact hT.li r hr⟩,hw6,by rw [List.length_map]; exact hn,fun q hq => by
   obtain ⟨r,hr,rfl⟩:=List.mem_map.mp hq
   have:=hh r hr
   show 0 ≤ r.1 + m ∧ r.1 + m < 10
   lia⟩
 generalize (rows.map fun q => (q.1 + m,q.2)) = rows2 at *
 have hp97:=hO.p97
 have hG:Good p w rows2:=⟨hp97.1,hp97.2,by lia,by have:=hO.n; lia,fun q hq => ⟨hO.tb.li q hq,hO.hd q hq⟩⟩
 have hB:=txt_bt hO
 have hTab:=txt_tab hO
 have e3:=text_ok hO []
 have e4:=rt_ok (by have:=hB.1; lia) hTab []
 have e5:=show_ok hO []
 have e6:=is_ok hG []
 have n1:=tb_ne (p:=p) (w:=w) (rows:=rows2)
 generalize txt p w rows2 = t at *
 have zz:(t == t) = true:=by simp
 have h3:law_s3 [some (.val (.lst (ns.map T.int))),some (.val (tb p w rows2)),some (.val (.int m)),none,none,none,none,none,none] [] = .nx [some (.val (.lst (ns.map T.int))),some (.val (tb p w rows2)),some (.val (.int m)),some (.val (.str t)),none,none,none,none,none] []:=by
  unfold law_s3
  simp (disch:=first | decide | omega | assumption) only [stw,stc,Nat.reduceAdd,Nat.reduceSub,e3]
 have h4:law_s4 [some (.val (.lst (ns.map T.int))),some (.val (tb p w rows2)),some (.val (.int m)),some (.val (.str t)),none,none,none,none,none] [] = .nx [some (.val (.lst (ns.map T.int))),some (.val (tb p w rows2)),some (.val (.int m)),some (.val (.str t)),some (.val (tb p w rows2)),none,none,none,none] []:=by
  unfold law_s4
  simp (disch:=first | decide | omega | assumption) only [stw,stc,Nat.reduceAdd,Nat.reduceSub,e4]
 have h5:law_s5 [some (.val (.lst (ns.map T.int))),some (.val (tb p w rows2)),some (.val (.int m)),some (.val (.str t)),some (.val (tb p w rows2)),none,none,none,none] [] = .nx [some (.val (.lst (ns.map T.int))),some (.val (tb p w rows2)),some (.val (.int m)),some (.val (.str t)),some (.val (tb p w rows2)),none,none,none,none] []:=by
  unfold law_s5
  generalize tb p w rows2 = W at *
  simp (disch:=first | decide | omega | assumption) only [stw,stc,Nat.reduceAdd,Nat.reduceSub,e5,zz,n1,e6]
 obtain ⟨e',μ',hf,y4,y5,y6,y7,rfl,rfl⟩:=forL_nx (same:=fun _ => True) (b:=bName 5) (body:=tryB) (ts:=intsT 0 (6:Int).toNat)
  (I:=fun i e μ1 => ∃ x4 x5 x6 x7,e = [some (.val (.lst (ns.map T.int))),some (.val (tb p w rows2)),some (.val (.int m)),some (.val (.str t)),x4,x5,x6,x7,none] ∧ ([]:Store) = μ1)
  (fun _ _ _ _ => trivial) (fun i z e μ1 hz hI => by
   obtain ⟨x4,x5,x6,x7,rfl,rfl⟩:=hI
   obtain ⟨k,rfl,hi,hk⟩:=intsT_k hz
   have hi:i < 6:=hi
   obtain ⟨z4,z6,z7,hb⟩:=tryB_ok ns hB k (by lia) (by lia) (some (.val (tb p w rows2))) (some (.val (.int m))) x4 x6 x7 none []
   exact ⟨_,_,_,rfl,by simp only [List.set_cons_succ,List.set_cons_zero]; exact hb,z4,_,z6,z7,rfl,rfl⟩)
  (e:=[some (.val (.lst (ns.map T.int))),some (.val (tb p w rows2)),some (.val (.int m)),some (.val (.str t)),some (.val (tb p w rows2)),none,none,none,none]) (μ:=[]) ⟨_,none,none,none,rfl,rfl⟩
 have r6:rngOk 6 = true:=rngOk_of (by lia) (by lia)
 have h6:law_s6 [some (.val (.lst (ns.map T.int))),some (.val (tb p w rows2)),some (.val (.int m)),some (.val (.str t)),some (.val (tb p w rows2)),none,none,none,none] [] = .nx [some (.val (.lst (ns.map T.int))),some (.val (tb p w rows2)),some (.val (.int m)),some (.val (.str t)),y4,y5,y6,y7,none] []:=by
  rw [show law_s6 = sFor (iRange1 (dC (.int 6))) (bName 5) tryB from rfl]
  simp (disch:=first | decide | omega | assumption) only [stw,stc,Nat.reduceAdd,Nat.reduceSub,r6]
  exact hf
 obtain ⟨o,ho,h7⟩:=s7_ok ns t p w rows2 (some (.val (.int m))) y4 y5 y6 y7 none []
 have z:=none_eq
 have h8:law_s8 [some (.val (.lst (ns.map T.int))),some (.val (tb p w rows2)),some (.val (.int m)),some (.val (.str t)),y4,y5,y6,y7,some (.val o)] [] = .rt (.val (.bl true)) []:=by
  unfold law_s8
  simp (disch:=first | decide | omega | assumption) only [stw,stc,Nat.reduceAdd,Nat.reduceSub,ho true,ho false,z]
 refine ⟨[],?_⟩
 unfold fV_law
 rw [fnV_is,law_is]
 show RS.endV 0 (law_t0 [some (.val (.lst (ns.map T.int))),none,none,none,none,none,none,none,none] []) = _
 rw [law_t0_is,h0,RS.seq_nx,law_t1_is,h1,RS.seq_nx,law_t2_is,h2,RS.seq_nx,law_t3_is,h3,RS.seq_nx,law_t4_is,h4,RS.seq_nx,law_t5_is,h5,RS.seq_nx,law_t6_is,h6,RS.seq_nx,law_t7_is,h7,RS.seq_nx,law_t8_is,h8,endV_rt]
 rfl
end Fw.k91
open PySem PySem.W PyProof.Rows
set_option maxRecDepth 100000 in
set_option maxHeartbeats 0 in
theorem PySem.Challenge.cw_fewopen_k91_tables_written_holds : PySem.Challenge.rw_fewopen_k91_tables_written.Holds := by
 w_on; o_law; k_head; (case hw => w_witness2)
 k_fill
 refine Fw.k91.walk (l:=PySem.Challenge.rw_fewopen_k91_tables_written) rfl rfl Fw.k91.holds (fun w h Y => PySem.W.kIn_of Y) ?F
 case F =>
  intro w mg fa h KX G hmg
  refine' Fw.k91.all_mk KX G hmg ?a0 ?l0 ?c0 ?k0 ?a1 ?l1 ?c1 ?k1 ?a2 ?l2 ?c2 ?k2 ?a3 ?l3 ?c3 ?k3 ?a4 ?l4 ?c4 ?k4 ?a5 ?l5 ?c5 ?k5 ?a6 ?l6 ?c6 ?k6 ?a7 ?l7 ?c7 ?k7 ?a8 ?l8 ?c8 ?k8 ?a9 ?l9 ?c9 ?k9 ?a10 ?l10 ?c10 ?k10 ?a11 ?l11 ?c11 ?k11 ?a12 ?l12 ?c12 ?k12 ?a13 ?l13 ?c13 ?k13 ?a14 ?l14 ?c14 ?k14 ?a15 ?l15 ?c15 ?k15 ?a16 ?l16 ?c16 ?k16 ?a17 ?l17 ?c17 ?k17 ?a18 ?l18 ?c18 ?k18 ?a19 ?l19 ?c19 ?k19 ?a20 ?l20 ?c20 ?k20 ?a21 ?l21 ?c21 ?k21 ?a22 ?l22 ?c22 ?k22 ?a23 ?l23 ?c23 ?k23 ?a24 ?l24 ?c24 ?k24 ?z0 ?z1 ?z2 ?z3 ?z4 ?z5 ?z6 ?z7 ?z8 ?z9 ?y0 ?y1 ?y2 ?y3 ?y4 ?y5 ?y6 ?x0 ?x1 ?x2 ?x3 ?x4 ?x5 ?x6 ?x7 ?x8 ?x9 ?x10 ?x11 ?x12 ?x13 ?x14 ?x15 ?x16 ?x17 ?x18
  (case a0 => k_is)
  (case l0 => k_is)
  (case c0 => k_is)
  (case k0 => k_is)
  (case a1 => k_is)
  (case l1 => k_is)
  (case c1 => k_is)
  (case k1 => k_is)
  (case a2 => k_is)
  (case l2 => k_is)
  (case c2 => k_is)
  (case k2 => k_is)
  (case a3 => k_is)
  (case l3 => k_is)
  (case c3 => k_is)
  (case k3 => k_is)
  (case a4 => k_is)
  (case l4 => k_is)
  (case c4 => k_is)
  (case k4 => k_is)
  (case a5 => k_is)
  (case l5 => k_is)
  (case c5 => k_is)
  (case k5 => k_is)
  (case a6 => k_is)
  (case l6 => k_is)
  (case c6 => k_is)
  (case k6 => k_is)
  (case a7 => k_is)
  (case l7 => k_is)
  (case c7 => k_is)
  (case k7 => k_is)
  (case a8 => k_is)
  (case l8 => k_is)
  (case c8 => k_is)
  (case k8 => k_is)
  (case a9 => k_is)
  (case l9 => k_is)
  (case c9 => k_is)
  (case k9 => k_is)
  (case a10 => k_is)
  (case l10 => k_is)
  (case c10 => k_is)
  (case k10 => k_is)
  (case a11 => k_is)
  (case l11 => k_is)
  (case c11 => k_is)
  (case k11 => k_is)
  (case a12 => k_is)
  (case l12 => k_is)
  (case c12 => k_is)
  (case k12 => k_is)
  (case a13 => k_is)
  (case l13 => k_is)
  (case c13 => k_is)
  (case k13 => k_is)
  (case a14 => k_is)
  (case l14 => k_is)
  (case c14 => k_is)
  (case k14 => k_is)
  (case a15 => k_is)
  (case l15 => k_is)
  (case c15 => k_is)
  (case k15 => k_is)
  (case a16 => k_is)
  (case l16 => k_is)
  (case c16 => k_is)
  (case k16 => k_is)
  (case a17 => k_is)
  (case l17 => k_is)
  (case c17 => k_is)
  (case k17 => k_is)
  (case a18 => k_is)
  (case l18 => k_is)
  (case c18 => k_is)
  (case k18 => k_is)
  (case a19 => k_is)
  (case l19 => k_is)
  (case c19 => k_is)
  (case k19 => k_is)
  (case a20 => k_is)
  (case l20 => k_is)
  (case c20 => k_is)
  (case k20 => k_is)
  (case a21 => k_is)
  (case l21 => k_is)
  (case c21 => k_is)
  (case k21 => k_is)
  (case a22 => k_is)
  (case l22 => k_is)
  (case c22 => k_is)
  (case k22 => k_is)
  (case a23 => k_is)
  (case l23 => k_is)
  (case c23 => k_is)
  (case k23 => k_is)
  (case a24 => k_is)
  (case l24 => k_is)
  (case c24 => k_is)
  (case k24 => k_is)
  (case z0 => k_is)
  (case z1 => k_is)
  (case z2 => k_is)
  (case z3 => k_is)
  (case z4 => k_is)
  (case z5 => k_is)
  (case z6 => k_is)
  (case z7 => k_is)
  (case z8 => k_is)
  (case z9 => k_is)
  (case y0 => k_is)
  (case y1 => k_is)
  (case y2 => k_is)
  (case y3 => k_is)
  (case y4 => k_is)
  (case y5 => k_is)
  (case y6 => k_is)
  (case x0 => k_is)
  (case x1 => k_is)
  (case x2 => k_is)
  (case x3 => k_exc)
  (case x4 => k_is)
  (case x5 => k_is)
  (case x6 => k_is)
  (case x7 => k_is)
  (case x8 => k_is)
  (case x9 => k_is)
  (case x10 => k_exc)
  (case x11 => k_is)
  (case x12 => k_is)
  (case x13 => k_is)
  (case x14 => k_is)
  (case x15 => kit_is)
  (case x16 => kit_is)
  (case x17 => k_is)
  (case x18 => kit_is)
