import PyProof.Rows.All
import Wide.All
import OpenK.AllK
import Wide.FinOn
import Lean
import PyProof.EqAt
import PyProof.EqKinds
import PyProof.TupleCall
import PyProof.NeData
import PyProof.P3Eq
import PyProof.ConsumeWalk
import PyProof.ZipIter
import PyProof.DictItemsLoops
import KE.KDictList
import KE.KPairComp
import PyProof.Draws
import PyProof.EnumMake
import PyProof.EnumFor
import PyProof.ListRange
import PyProof.ListMulAny
import KE.KRevIter
import PyProof.Rows.SortShell
import PyProof.StrCalls2
import PyProof.StrCalls3
import PyProof.FString
import PyProof.Rows.FStr
import PyProof.CallType
import PyProof.EnumStmt
import PyProof.Rows.CallKwBuiltin
import PyProof.Rows.SetFrom
import PyProof.FactsAll.set_1
import PyProof.FactsAll.set_2
import PyProof.CollectWalk
import PyProof.TupleIter
import PyProof.ForAny
import PyProof.DictWalks
import PyProof.ListStr
import PyProof.ListNew
import PySem.Challenge.RW_fewopen_k73_parts_handed_on
set_option compiler.extract_closed false
set_option bootstrap.genMatcherCode false
set_option genSizeOf false
set_option Elab.async false
set_option linter.all false
set_option maxRecDepth 100000
noncomputable section
namespace L2
open PySem PySem.Spec PyProof.Rows
noncomputable abbrev Key := Sum Int Str
def sQ:Key→Value→Bool
 | .inl k,v=>Value.isInt k v
 | .inr x,v=>Value.isStrOf x v
def Qw(w:World):Key→Int
 | .inl k=>hashInt k
 | .inr x=>hashStr w x
theorem cY:∀{k:Key}{v:Value},sQ k v=true→(∃i t,k=Sum.inl i∧v=Value.int i t)∨(∃x t,k=Sum.inr x∧v=Value.str x t)
 | .inl i,v,h=>by
  obtain⟨t,e⟩:=Value.isInt_shape (k:=i) (v:=v) h
  exact .inl ⟨i,t,rfl,e⟩
 | .inr x,v,h=>by
  obtain⟨t,e⟩:=Value.isStrOf_shape (x:=x) (v:=v) h
  exact .inr ⟨x,t,rfl,e⟩
theorem C0(i:Int)(t:Tok):sQ (.inl i) (.int i t)=true:=by simp[sQ,Value.isInt]
theorem C3(x:Str)(t:Tok):sQ (.inr x) (.str x t)=true:=by simp[sQ,Value.isStrOf]
theorem KW(a b:Int):decide ((Sum.inl a:Key)=Sum.inl b)=(a==b):=by
 by_cases e:a=b
 ·subst e;simp
 ·have h:¬ (Sum.inl a:Key)=Sum.inl b:=λq=>e (Sum.inl.inj q)
  rw[decide_eq_false h]
  exact (beq_eq_false_iff_ne.mpr e).symm
theorem KY(a b:Str):decide ((Sum.inr a:Key)=Sum.inr b)=decide (a=b):=by
 by_cases e:a=b
 ·subst e;simp
 ·have h:¬ (Sum.inr a:Key)=Sum.inr b:=λq=>e (Sum.inr.inj q)
  rw[decide_eq_false h,decide_eq_false e]
theorem KZ(a:Int)(b:Str):decide ((Sum.inl a:Key)=Sum.inr b)=false:=decide_eq_false (λq=>nomatch q)
theorem K0(a:Str)(b:Int):decide ((Sum.inr a:Key)=Sum.inl b)=false:=decide_eq_false (λq=>nomatch q)
def dO(prog:Program)(w:World):PySem.KeyKind prog w Key where
 is:=sQ
 hash:=Qw w
 inj:=λv a b ha hb=>by
  rcases cY ha with ⟨i,t,rfl,rfl⟩|⟨x,t,rfl,rfl⟩
  ·rcases cY hb with ⟨j,u,rfl,e⟩|⟨y,u,rfl,e⟩
   ·injection e with e1 _;rw[e1]
   ·exact nomatch e
  ·rcases cY hb with ⟨j,u,rfl,e⟩|⟨y,u,rfl,e⟩
   ·exact nomatch e
   ·injection e with e1 _;rw[e1]
 byValue:=λk v h=>by
  rcases cY h with ⟨i,t,rfl,rfl⟩|⟨x,t,rfl,rfl⟩<;>rfl
 pyHash:=λhv h=>by
  rcases cY hv with ⟨i,t,rfl,rfl⟩|⟨x,t,rfl,rfl⟩
  ·exact wpAny_pyHash_int h
  ·exact wpAny_pyHash_str h
 eqBool:=λhu hv h=>by
  rcases cY hu with ⟨i,t,rfl,rfl⟩|⟨x,t,rfl,rfl⟩
  ·rcases cY hv with ⟨j,u,rfl,rfl⟩|⟨y,u,rfl,rfl⟩
   ·rw[KW] at h;exact wpAny_eqBool_int h
   ·rw[KZ] at h;exact SeqAt.EqAt.int_str i t y u _ _ _ _ h
  ·rcases cY hv with ⟨j,u,rfl,rfl⟩|⟨y,u,rfl,rfl⟩
   ·rw[K0] at h;exact SeqAt.EqAt.str_int x t j u _ _ _ _ h
   ·rw[KY] at h;exact wpAny_eqBool_str h
 «strs»:=λk x t v h=>by
  rcases cY h with ⟨i,u,rfl,e⟩|⟨y,u,rfl,e⟩
  ·exact nomatch e
  ·injection e with e1 _
   subst e1
   cases v<;>rfl
theorem yA(prog:Program)(w:World)(i:Int)(t:Tok):(dO prog w).is (.inl i) (.int i t)=true:=C0 i t
theorem yB(prog:Program)(w:World)(x:Str)(t:Tok):(dO prog w).is (.inr x) (.str x t)=true:=C3 x t
inductive V where
 | non|bl (b:Bool)|int (i:Int)|str (x:Str)|byt (b:Array UInt8)|flt (b:UInt64)|ref (a:Addr)|ty (n:String)
 deriving DecidableEq
def RelV:V→Value→Prop
 | .non,u=>u=Value.none
 | .bl b,u=>u=Value.bool b
 | .int i,u=>∃t,u=Value.int i t
 | .str x,u=>∃t,u=Value.str x t
 | .byt b,u=>∃t,u=Value.bytes b t
 | .flt b,u=>∃t,u=Value.float b t
 | .ref a,u=>u=Value.ref a
 | .ty n,u=>u=Value.type n
noncomputable abbrev Vals : List V → List Value → Prop := Paired RelV
theorem Vals.length{xs:List V}{us:List Value}(r:Vals xs us):xs.length=us.length:=Paired.length r
theorem Vals.get:∀{xs:List V}{us:List Value}{i:Nat}{x:V},Vals xs us→xs[i]?=some x→∃u,us[i]?=some u∧RelV x u
 | _,_,_,_,.nil,e=>by simp at e
 | _,_,0,_,.cons r _,e=>by simp at e;subst e;exact⟨_,rfl,r⟩
 | _,_,i+1,x,.cons _ t,e=>by
  obtain⟨u,h1,h2⟩:=Vals.get (i:=i) (x:=x) t (by simpa using e)
  exact⟨u,by simpa using h1,h2⟩
theorem Vals.set{x:V}{u:Value}(r:RelV x u):∀{xs:List V}{us:List Value} (i:Nat),Vals xs us→Vals (xs.set i x) (us.set i u)
 | _,_,_,.nil => .nil
 | _,_,0,.cons _ t => .cons r t
 | _,_,i+1,.cons q t => .cons q (Vals.set r i t)
theorem Vals.append:∀{xs ys:List V}{us ws:List Value},Vals xs us→Vals ys ws→Vals (xs++ys) (us++ws)
 | _,_,_,_,.nil,s=>s
 | _,_,_,_,.cons r t,s => .cons r (Vals.append t s)
theorem Vals.take:∀{xs:List V}{us:List Value} (n:Nat),Vals xs us→Vals (xs.take n) (us.take n)
 | _,_,0,_ => .nil
 | _,_,_+1,.nil => .nil
 | _,_,n+1,.cons r t => .cons r (Vals.take n t)
theorem Vals.drop:∀{xs:List V}{us:List Value} (n:Nat),Vals xs us→Vals (xs.drop n) (us.drop n)
 | _,_,0,r=>r
 | _,_,_+1,.nil => .nil
 | _,_,n+1,.cons _ t=>Vals.drop n t
def rR:Option V→Option Value→Prop
 | some v,some u=>RelV v u
 | none,none=>True
 | _,_=>False
def KV{κ:Type}:List (κ×V)→List (κ×Value)→Prop:=Paired λ(p:κ×V) (q:κ×Value)=>p.1=q.1∧RelV p.2 q.2
def kV:Key→V
 | .inl i => .int i
 | .inr x => .str x
inductive HO where
 | lst (xs:List V)
 | tup (xs:List V)
 | dK (kvs:List (Key×V))|dT (kvs:List (List Key×V))
 | set (S:Int→Bool) (n:Nat)
 | ins (C dx:Addr) (fs:List (Str×V))
 | own (x:Addr)
 | xd (fs:List (Str×V))
 | met (f x:Addr)
 | rng (lo hi:Int)
 | frz (o:Obj) (u:HO)
 | tbl (ps:Array Value)
 | ext (φ:Heap→Prop)
noncomputable abbrev Hp := Addr → Option HO
def upd(H:Hp)(a:Addr)(o:HO):Hp:=λb=>if b=a then some o else H b
theorem aV{H:Hp}{a:Addr}{o:HO}:upd H a o a=some o:=by unfold upd;rw[if_pos rfl]
theorem aQ{H:Hp}{a b:Addr}{o:HO}(h:b≠a):upd H a o b=H b:=by unfold upd;rw[if_neg h]
theorem NO{H:Hp}{a b:Addr}{o u:HO}(h:H a=some o)(h':H b=some u)(d:o≠u):a≠b:=by
 intro e;subst e;rw[h] at h';exact d (Option.some.inj h')
theorem d9{H:Hp}{a b:Addr}{o:HO}(h:H a=some o)(h':H b=none):a≠b:=by
 intro e;subst e;rw[h] at h';cases h'
section
variable(P:Program)(w:World)
def dI(H:Hp)(h:Heap)(a:Addr):HO→Prop
 | .lst xs=>xs.length≤sizeLine∧∃(its:List Value) (n:Nat),Vals xs its∧h.get? a=some { cls:=.type "list",data:=.seq its.toArray n }
 | .tup xs=>xs.length≤sizeLine∧∃its:List Value,Vals xs its∧IsTup h a its.toArray
 | .dK kvs=>kvs.length≤sizeLine∧(a==sysModules)=false∧∃vs,KV kvs vs∧h.DictAt (dO P w) a vs vs.length
 | .dT kvs=>kvs.length≤sizeLine∧(a==sysModules)=false∧∃xs:List (List Key×Addr×Value),
   Paired (λ(p:List Key×V) (q:List Key×Addr×Value)=>p.1=q.1∧H q.2.1=some (.tup (p.1.map kV))∧RelV p.2 q.2.2) kvs xs ∧
   ∃o es ep,h.get? a=some o∧o.ExactDict∧o.data = .dict es ep∧es.toList=xs.map (entryOfKey (tupleKind (dO P w)))∧(xs.map (·.1)).Nodup
 | .set S n=>h.SetOf (intKind P w) a S n
 | .ins C dx fs=>H dx=some (.own a)∧fs.length≤1000∧dx≠a∧h.get? a=some (PySem.W.instObj C dx) ∧
   ∃mA,h.Ns1 dx mA∧(∀f,rR (fs.lookup f) (mA f))∧PySem.Within mA (fs.map (·.1))
 | .own _=>∃o,h.get? a=some o
 | .xd fs=>∃mA,h.Ns1 a mA∧∀f,rR (fs.lookup f) (mA f)
 | .rng lo hi=>∃t u v,h.get? a=some { cls:=.type "range",data:=.fields #[.int lo t,.int hi u,.int 1 v] }
 | .frz o u=>h.get? a=some o∧dI H h a u
 | .tbl ps=>h.get? a=some { cls:=.none,data:=.fields ps }
 | .met f x=>h.get? a=some (PySem.W.methodObj (.ref f) (.ref x))
 | .ext φ=>φ h∧(∃o,h.get? a=some o)∧∀h1 h2:Heap,φ h1→(∀o,h1.get? a=some o→h2.get? a=some o)→φ h2
def HOk(H:Hp)(h:Heap):Prop:=∀a o,H a=some o→dI P w H h a o
end
section
variable{P:Program}{w:World}{H H':Hp}{h h':Heap}{a:Addr}{o:HO}
theorem dI.lt(x:dI P w H h a o):a<h.objs.size:=by
 cases o with
 | lst xs=>obtain⟨_,_,_,_,e⟩:=x;exact Heap.lt_size e
 | tup xs=>obtain⟨_,_,_,p⟩:=x;exact p.lt
 | dK kvs=>obtain⟨_,_,_,_,o,_,e,_⟩:=x;exact Heap.lt_size e
 | dT kvs=>obtain⟨_,_,_,_,o,_,_,e,_⟩:=x;exact Heap.lt_size e
 | set S n=>obtain⟨o,_,_,_,e,_⟩:=x;exact Heap.lt_size e
 | ins C dx fs=>obtain⟨_,_,_,e,_⟩:=x;exact Heap.lt_size e
 | own y=>obtain⟨_,e⟩:=x;exact Heap.lt_size e
 | xd fs=>obtain⟨_,⟨_,_,_,e,_⟩,_⟩:=x;exact Heap.lt_size e
 | rng lo hi=>obtain⟨_,_,_,e⟩:=x;exact Heap.lt_size e
 | frz ob u=>obtain⟨e,_⟩:=x;exact Heap.lt_size e
 | tbl ps=>exact Heap.lt_size (show h.get? a=some _ from x)
 | met f y=>exact Heap.lt_size (show h.get? a=some _ from x)
 | ext φ=>obtain⟨_,⟨_,e⟩,_⟩:=x;exact Heap.lt_size e
theorem Paired.HW{α β:Type}{F G:α→β→Prop}:∀{l₁:List α}{l₂:List β},Paired F l₁ l₂→(∀a b,F a b→G a b)→Paired G l₁ l₂
 | _,_,.nil,_ => .nil
 | _,_,.cons r t,f => .cons (f _ _ r) (Paired.HW t f)
theorem Paired.imp'{α β:Type}{F G:α→β→Prop}(f:∀a b,F a b→G a b){l₁:List α}{l₂:List β}(r:Paired F l₁ l₂):Paired G l₁ l₂:=Paired.HW r f
theorem dI.rS(x:dI P w H h a o)(k:∀b u,(b=a∨H b=some (.own a))→h.get? b=some u→h'.get? b=some u)
  (ho:∀b,H b=some (.own a)→H' b=some (.own a)) (ht:∀b xs,H b=some (.tup xs)→H' b=some (.tup xs)):dI P w H' h' a o:=by
 induction o with
 | lst xs=>obtain⟨z,its,n,r,e⟩:=x;exact⟨z,its,n,r,k _ _ (.inl rfl) e⟩
 | tup xs=>obtain⟨z,its,r,ob,e,c⟩:=x;exact⟨z,its,r,ob,k _ _ (.inl rfl) e,c⟩
 | dK kvs=>obtain⟨z,y,vs,r,ob,es,e,c⟩:=x;exact⟨z,y,vs,r,ob,es,k _ _ (.inl rfl) e,c⟩
 | dT kvs =>
  obtain⟨z,y,xs,r,ob,es,ep,e,c⟩:=x
  exact⟨z,y,xs,Paired.HW r λp q z=>⟨z.1,ht _ _ z.2.1,z.2.2⟩,ob,es,ep,k _ _ (.inl rfl) e,c⟩
 | set S n=>obtain⟨ob,es,ep,t,e,c⟩:=x;exact⟨ob,es,ep,t,k _ _ (.inl rfl) e,c⟩
 | ins C dx fs =>
  obtain⟨d,z,ne,e,mA,⟨od,es,ep,e2,c⟩,r⟩:=x
  exact⟨ho _ d,z,ne,k _ _ (.inl rfl) e,mA,⟨od,es,ep,k _ _ (.inr d) e2,c⟩,r⟩
 | own y=>obtain⟨ob,e⟩:=x;exact⟨ob,k _ _ (.inl rfl) e⟩
 | xd fs=>obtain⟨mA,⟨od,es,ep,e,c⟩,r⟩:=x;exact⟨mA,⟨od,es,ep,k _ _ (.inl rfl) e,c⟩,r⟩
 | rng lo hi=>obtain⟨t,u,v,e⟩:=x;exact⟨t,u,v,k _ _ (.inl rfl) e⟩
 | frz ob u ih=>obtain⟨e,q⟩:=x;exact⟨k _ _ (.inl rfl) e,ih q⟩
 | tbl ps =>
  have e:h.get? a=some { cls:=.none,data:=.fields ps }:=x
  show h'.get? a=some { cls:=.none,data:=.fields ps }
  exact k a _ (.inl rfl) e
 | met f y =>
  have e:h.get? a=some (PySem.W.methodObj (.ref f) (.ref y)):=x
  show h'.get? a=some (PySem.W.methodObj (.ref f) (.ref y))
  exact k a _ (.inl rfl) e
 | ext φ=>obtain⟨p,⟨o,e⟩,st⟩:=x;exact⟨st _ _ p λo q=>k _ _ (.inl rfl) q,⟨o,k _ _ (.inl rfl) e⟩,st⟩
theorem HOk.lt(x:HOk P w H h)(e:H a=some o):a<h.objs.size:=(x a o e).lt
theorem HOk.fresh(x:HOk P w H h)(e:h.objs.size≤a):H a=none:=by
 cases q:H a with
 | none=>rfl
 | some u=>exact absurd (Nat.lt_of_lt_of_le (x.lt q) e) (Nat.lt_irrefl _)
theorem HOk.kept(x:HOk P w H h)(k:∀b u,h.get? b=some u→h'.get? b=some u):HOk P w H h':=λa o e =>
 (x a o e).rS (λb u _ q=>k b u q) (λ_ q=>q) λ_ _ q=>q
theorem HOk.laid(x:HOk P w H h)(k:∀b u,h.get? b=some u→h'.get? b=some u)(hp:h.objs.size≤a)(new:dI P w (upd H a o) h' a o):HOk P w (upd H a o) h':=λb u e=>by
 have hn:=x.fresh hp
 by_cases hb:b=a
 ·subst hb;rw[aV] at e;cases e;exact new
 ·rw[aQ hb] at e
  exact (x b u e).rS (λc v _ q=>k c v q) (λc q=>by rw[aQ (d9 q hn)];exact q) λc xs q=>by rw[aQ (d9 q hn)];exact q
end
def Rd(H:Hp)(a:Addr)(u:HO):Prop:=H a=some u∨∃o,H a=some (.frz o u)
theorem Rd.ok{P:Program}{w:World}{H:Hp}{h:Heap}{a:Addr}{u:HO}(r:Rd H a u)(x:HOk P w H h):dI P w H h a u:=by
 rcases r with r|⟨o,r⟩
 ·exact x a u r
 ·obtain⟨_,q⟩:=x a _ r
  exact q
def Mut:Option HO→Prop
 | some (.lst _)=>True
 | some (.dK _)=>True
 | some (.dT _)=>True
 | some (.set _ _)=>True
 | some (.ins _ _ _)=>True
 | some (.ext _)=>True
 | _=>False
section
variable{P:Program}{w:World}{H:Hp}{h h':Heap}{x e:Addr}{o':HO}
theorem HOk.write(ok:HOk P w H h)(mu:Mut (H x))(he:e=x∨H e=some (.own x))(k:∀b u,b≠e→h.get? b=some u→h'.get? b=some u)(heo:∃u,h'.get? e=some u)
  (new:dI P w (upd H x o') h' x o'):HOk P w (upd H x o') h':=λb u q=>by
 have NP:∀c y,H c=some (.own y)→c≠x:=λc y r z=>by subst z;rw[r] at mu;exact mu
 have Qx:∀c xs,H c=some (.tup xs)→c≠x:=λc xs r z=>by subst z;rw[r] at mu;exact mu
 by_cases hb:b=x
 ·subst hb;rw[aV] at q;cases q;exact new
 ·rw[aQ hb] at q
  by_cases hbe:b=e
  ·have q':H b=some (.own x):=by
    rcases he with z|z
    ·exact absurd (hbe.trans z) hb
    ·rw[hbe];exact z
   rw[q] at q';cases q'
   obtain⟨v,hv⟩:=heo
   exact⟨v,by rw[hbe];exact hv⟩
  ·refine (ok b u q).rS (λc v hc r=>k c v ?_ r) (λc r=>by rw[aQ (NP c b r)];exact r) λc xs r=>by rw[aQ (Qx c xs r)];exact r
   rcases hc with rfl|hc
   ·exact hbe
   ·rintro rfl
    rcases he with z|z
    ·exact NP c b hc z
    ·rw[hc] at z;cases z;exact hb rfl
end
structure Un(fs ex:List Addr)(H H':Hp)(h h':Heap):Prop where
 keep:∀b o,h.get? b=some o→H b=none→b∉fs→b∉ex→h'.get? b=some o
 slot:∀b o,h.get? b=some o→H b=none→b∈fs→b∉ex→∃sl,h'.get? b=some { o with slots:=sl }
 free:∀b o,h.get? b=some o→H b=none→b∉ex→H' b=none
 there:∀b o,h.get? b=some o→b∉ex→∃o',h'.get? b=some o'
 nS:∀b xs,H b=some (.tup xs)→H' b=some (.tup xs)
 eJ:∀b o u,H b=some (.frz o u)→H' b=some (.frz o u)
 nT:∀b ps,H b=some (.tbl ps)→∃more,H' b=some (.tbl (ps++more))
section
variable{fs fs' ex ex':List Addr}{H H1 H2:Hp}{h h1 h2 h':Heap}{a x e:Addr}{o:HO}
theorem Un.any(u:Un fs ex H H1 h h1){b:Addr}{ob:Obj}(q:h.get? b=some ob)(n:H b=none)(hx:b∉ex):∃sl,h1.get? b=some { ob with slots:=sl }:=by
 by_cases hb:b∈fs
 ·exact u.slot b ob q n hb hx
 ·exact⟨ob.slots,u.keep b ob q n hb hx⟩
theorem Un.kept(k:∀b u,h.get? b=some u→h'.get? b=some u):Un fs ex H H h h' :=
 ⟨λb ob q _ _ _=>k b ob q,λb ob q _ _ _=>⟨ob.slots,k b ob q⟩,λ_ _ _ n _=>n,λb ob q _=>⟨ob,k b ob q⟩,λ_ _ q=>q,λ_ _ _ q=>q,λ_ ps q=>⟨#[],by rw[q];simp⟩⟩
theorem Un.refl:Un fs ex H H h h:=Un.kept λ_ _ q=>q
theorem Un.laid(k:∀b u,h.get? b=some u→h'.get? b=some u)(hp:h.objs.size≤a)(hn:H a=none):Un fs ex H (upd H a o) h h' where
 keep:=λb u q _ _ _=>k b u q
 slot:=λb u q _ _ _=>⟨u.slots,k b u q⟩
 free:=λb u q n _=>by rw[aQ (Nat.ne_of_lt (Nat.lt_of_lt_of_le (Heap.lt_size q) hp))];exact n
 there:=λb u q _=>⟨u,k b u q⟩
 nS:=λb xs q=>by rw[aQ (d9 q hn)];exact q
 eJ:=λb u xs q=>by rw[aQ (d9 q hn)];exact q
 nT:=λb ps q=>⟨#[],by rw[aQ (d9 q hn),q];simp⟩
theorem Un.write(mu:Mut (H x))(he:e=x∨H e=some (.own x))(k:∀b u,b≠e→h.get? b=some u→h'.get? b=some u)(heo:∃u,h'.get? e=some u):Un fs ex H (upd H x o) h h':=by
 have hx:∀b,H b=none→b≠x:=λb n z=>by subst z;rw[n] at mu;exact mu
 have hb:∀b,H b=none→b≠e:=λb n z=>by
  subst z
  rcases he with r|r
  ·exact hx b n r
  ·rw[n] at r;cases r
 have hm:∀b u,H b=some u→¬ Mut (some u)→b≠x:=λb u q nm z=>by subst z;rw[q] at mu;exact nm mu
 refine⟨λb u q n _ _=>k b u (hb b n) q,λb u q n _ _=>⟨u.slots,k b u (hb b n) q⟩,λb u q n _=>by rw[aQ (hx b n)];exact n,λb u q _=>?_,
  λb xs q=>by rw[aQ (hm b _ q λz=>z)];exact q,λb u xs q=>by rw[aQ (hm b _ q λz=>z)];exact q,λb ps q=>⟨#[],by rw[aQ (hm b _ q λz=>z),q];simp⟩⟩
 by_cases hbe:b=e
 ·subst hbe;exact heo
 ·exact⟨u,k b u hbe q⟩
end
def trk(h:Heap)(H:Hp):List Addr:=(List.range h.objs.size).filter λa=>(H a).isSome
def wN(h:Heap)(H:Hp):Heap:=PySem.W.hideAll h (trk h H)
theorem C4(h:Heap)(H:Hp):(wN h H).objs.size=h.objs.size:=PySem.W.hideAll_size _ _
theorem EN{h:Heap}{H:Hp}{b:Addr}{o:Obj}(e:h.get? b=some o)(n:H b=none):(wN h H).get? b=some o :=
 PySem.W.hideAll_get _ e λhm=>by
  have q:(H b).isSome=true:=(List.mem_filter.mp hm).2
  rw[n] at q;simp at q
theorem HX{h:Heap}{H:Hp}{b:Addr}{o:Obj}(e:(wN h H).get? b=some o):h.get? b=some o∧H b=none:=by
 have e':h.get? b=some o:=PySem.W.of_hideAll (trk h H) e
 refine⟨e',?_⟩
 cases q:H b with
 | none=>rfl
 | some x =>
  have hm:b∈trk h H:=List.mem_filter.mpr ⟨List.mem_range.mpr (Heap.lt_size e'),by simp[q]⟩
  have z:(wN h H).get? b=none:=PySem.W.hideAll_none (trk h H) hm
  rw[z] at e;cases e
structure Mod(K:PySem.W.Frag)(mg:Str→Option Value)(base:Heap):Prop where
 kin:K.In base
 glob:base.Ns mainGlobals mg
 blt:∃mb,base.Ns builtinsNs mb∧∀x:Str,x≠"__name__"→mb x=bootBuiltins x
 nolimit:base.NoLimit
structure Cx where
 prog:Program
 w:World
 K:PySem.W.Frag
 mg:Str→Option Value
 base:Heap
 A:Around
 N:List Str
 s₀:Shared
 H₀:Hp
 env:Env
 outer:List Env
 stack:List Env
 ex:List Addr
 fn:Str→Bool
 calm:Bool
 pn:List (Addr×Obj)
 xe:Value→Shared→Prop
def frs(l:List Env):List Addr:=l.filterMap (·.frame)
noncomputable abbrev Cx.fs (X : Cx) : List Addr := frs X.outer
def Vis(sc:Scope)(x:Str):Prop:=sc.names.lookup x=some .local∨sc.names.lookup x=some .cell∨sc.names.lookup x=some .free
def Loc(sc:Scope)(x:Str):Prop:=sc.names.lookup x=some .local∨sc.names.lookup x=some .cell
def Look(env:Env)(h:Heap)(m:Str→Option Value)(x:Str)(u:Value):Prop :=
 (env.kindOf x=some .local∧m x=some u)∨((env.kindOf x=some .cell∨env.kindOf x=some .free)∧∃c,env.cells.lookup x=some c∧h.IsCell c (some u))
structure Cx.Ok(X:Cx):Prop where
 mod:Mod X.K X.mg X.base
 kind:X.env.scope.kind = .function
 glob:X.env.globals=mainGlobals
 blt:X.env.builtins=builtinsNs
 above:X.s₀.heap.objs.size≤X.env.locals
 inj:∀x y c,X.env.cells.lookup x=some c→X.env.cells.lookup y=some c→x=y
 has:∀x,(X.env.kindOf x=some .cell∨X.env.kindOf x=some .free)→∃c,X.env.cells.lookup x=some c
 cab:∀x c,X.fn x=true→X.env.cells.lookup x=some c→X.s₀.heap.objs.size≤c
 hd:X.calm=true→X.A.handled=none
 frames:X.A.frames=some X.stack
 stk:X.stack=X.outer∨(X.stack=X.env::X.outer∧X.env.frame=some X.env.locals)
 exf:∀b∈X.ex,b≠X.env.locals∧∀x c,X.env.cells.lookup x=some c→c≠b
 bs:∀b o,X.base.get? b=some o→X.s₀.heap.get? b=some o∧X.H₀ b=none
 bsz:X.base.objs.size≤X.s₀.heap.objs.size
 wO:∀b o,X.base.get? b=some o→b∉X.ex
 Ak:∀b∈X.ex,b∉X.fs
 oh:X.s₀.heap.FunFrames X.base X.outer
 frf:∀b∈X.fs,X.H₀ b=none
structure Inv(X:Cx)(pins:List (Addr×Obj))(σ:List (Option V))(H:Hp)(s:Shared):Prop where
 ok:X.Ok
 os:s.os=X.s₀.os
 bare:AllBare s.gens
 base:Un X.fs X.ex X.H₀ H X.s₀.heap s.heap
 loc:∃m,s.heap.Ns X.env.locals m∧∀(i:Nat) (x:Str) (v:V),X.N[i]?=some x→σ[i]?=some (some v)→Vis X.env.scope x→∃u,RelV v u∧Look X.env s.heap m x u
 cell:∀x c,X.env.cells.lookup x=some c→∃v,s.heap.IsCell c v
 free:H X.env.locals=none
 hU:∀x c,X.env.cells.lookup x=some c→H c=none
 pin:∀p∈X.pn++pins,s.heap.get? p.1=some p.2∧H p.1=none∧p.1≠X.env.locals∧p.1∉X.fs∧∀v,p.2.data ≠ .cell v
 hok:HOk X.prog X.w H s.heap
 len:σ.length=X.N.length
section
variable{X:Cx}{pins:List (Addr×Obj)}{σ:List (Option V)}{H H':Hp}{s:Shared}{h':Heap}
theorem Cx.Ok.Qy(ok:X.Ok){b:Addr}{o:Obj}(e:X.base.get? b=some o):b∉X.fs:=λhb=>by
 have:=(ok.oh.mem hb).1
 rw[e] at this;cases this
theorem Inv.bs(I:Inv X pins σ H s):∀b o,X.base.get? b=some o→s.heap.get? b=some o∧H b=none:=λb o e =>
 ⟨I.base.keep b o (I.ok.bs b o e).1 (I.ok.bs b o e).2 (I.ok.Qy e) (I.ok.wO b o e),I.base.free b o (I.ok.bs b o e).1 (I.ok.bs b o e).2 (I.ok.wO b o e)⟩
theorem Inv.bk(I:Inv X pins σ H s):∀b o,X.base.get? b=some o→s.heap.get? b=some o:=λb o e=>(I.bs b o e).1
theorem Inv.mod(I:Inv X pins σ H s):Mod X.K X.mg X.base:=I.ok.mod
theorem Inv.kIn(I:Inv X pins σ H s):X.K.In s.heap:=I.ok.mod.kin.keeps I.bk
theorem Inv.nolimit(I:Inv X pins σ H s):s.heap.NoLimit:=I.ok.mod.nolimit.keeps I.bk
theorem Inv.lt(I:Inv X pins σ H s):X.env.locals<s.heap.objs.size:=let ⟨_,hn,_⟩:=I.loc;hn.lt
theorem Inv.sz(I:Inv X pins σ H s):X.s₀.heap.objs.size≤s.heap.objs.size:=Nat.le_trans I.ok.above (Nat.le_of_lt I.lt)
theorem Inv.Qz(I:Inv X pins σ H s){a:Addr}(h:s.heap.objs.size≤a):a∉X.fs:=λhb=>by
 obtain⟨_,o,ho,_⟩:=I.ok.oh.mem hb
 exact absurd (Nat.lt_of_lt_of_le (Heap.lt_size ho) (Nat.le_trans I.sz h)) (Nat.lt_irrefl _)
theorem Inv.cne(I:Inv X pins σ H s):∀x c,X.env.cells.lookup x=some c→c≠X.env.locals:=λx c e z=>by
 obtain⟨v,o,ho,hd⟩:=I.cell x c e
 obtain⟨m,⟨o',es,ep,ho',hd',_⟩,_⟩:=I.loc
 rw[z,ho'] at ho;cases ho;rw[hd'] at hd;cases hd
theorem Inv.oh(I:Inv X pins σ H s):s.heap.FunFrames X.base X.outer:=by
 have all:∀(l:List Env),(∀b∈frs l,b∈X.fs)→X.s₀.heap.FunFrames X.base l→s.heap.FunFrames X.base l:=by
  intro l
  induction l with
  | nil=>intro _ _;trivial
  | cons env r ih =>
   intro hs hl
   obtain⟨hk,⟨L,o,hf,hn,ho,hd⟩,hr⟩:=hl
   have hL:L∈X.fs:=hs L (by unfold frs;rw[List.filterMap_cons,hf];exact List.mem_cons_self)
   obtain⟨sl,e⟩:=I.base.slot L o ho (I.ok.frf L hL) hL λz=>I.ok.Ak L z hL
   exact⟨hk,⟨L,_,hf,hn,e,hd⟩,ih (λb hb=>hs b (by unfold frs;rw[List.filterMap_cons,hf];exact List.mem_cons_of_mem _ hb)) hr⟩
 exact all X.outer (λ_ hb=>hb) I.ok.oh
theorem Inv.stack(I:Inv X pins σ H s):s.heap.FunFrames X.base X.stack:=by
 rcases I.ok.stk with e|⟨e,hf⟩
 ·rw[e];exact I.oh
 ·rw[e]
  obtain⟨m,hn,_⟩:=I.loc
  refine .cons (by rw[I.ok.kind];decide) hf hn ?_ I.oh
  exact Heap.get?_none_of_le (Nat.le_trans I.ok.bsz I.ok.above)
theorem Inv.wQ(I:Inv X pins σ H s):∀b∈frs X.stack,b∈X.env.locals::X.fs:=λb hb=>by
 rcases I.ok.stk with e|⟨e,hf⟩
 ·rw[e] at hb;exact List.mem_cons_of_mem _ hb
 ·rw[e] at hb
  unfold frs at hb
  rw[List.filterMap_cons,hf] at hb
  exact hb
theorem Inv.su(I:Inv X pins σ H s):∀b∈frs X.stack,H b=none:=λb hb=>by
 rcases List.mem_cons.mp (I.wQ b hb) with e|hb
 ·rw[e];exact I.free
 ·obtain⟨_,o,ho,_⟩:=I.ok.oh.mem hb
  exact I.base.free b o ho (I.ok.frf b hb) λz=>I.ok.Ak b z hb
theorem Inv.step{g':Array GenState}{t':Nat}{d':Drawn}{ch:List Addr}(I:Inv X pins σ H s)
  (hch:∀b∈ch,(b∈X.ex∨X.s₀.heap.objs.size≤b)∧b≠X.env.locals∧(∀x c,X.env.cells.lookup x=some c→c≠b)∧∀p∈X.pn++pins,p.1≠b)
  (keep:∀b o,b≠X.env.locals→b∉X.fs→b∉ch→s.heap.get? b=some o→H b=none→h'.get? b=some o)
  (slot:∀b o,b≠X.env.locals→b∈X.fs→b∉ch→s.heap.get? b=some o→H b=none→∃sl,h'.get? b=some { o with slots:=sl }) (free:∀b o,b∉ch→s.heap.get? b=some o→H b=none→H' b=none)
  (there:∀b o,b∉ch→s.heap.get? b=some o→∃o',h'.get? b=some o')
  (nS:∀b xs,H b=some (.tup xs)→H' b=some (.tup xs)) (eJ:∀b o u,H b=some (.frz o u)→H' b=some (.frz o u)) (nT:∀b ps,H b=some (.tbl ps)→∃more,H' b=some (.tbl (ps++more)))
  (ns:∀m,s.heap.Ns X.env.locals m→h'.Ns X.env.locals m) (hok:HOk X.prog X.w H' h') (hg:AllBare g') :
  Inv X pins σ H' { s with heap:=h',gens:=g',drawn:=d',toks:=t' }:=by
 have neL:∀b o,X.s₀.heap.get? b=some o→b≠X.env.locals:=λb o e=>Nat.ne_of_lt (Nat.lt_of_lt_of_le (Heap.lt_size e) I.ok.above)
 have neC:∀b o,X.s₀.heap.get? b=some o→b∉X.ex→b∉ch:=λb o e hx hb=>by
  rcases (hch b hb).1 with z|z
  ·exact hx z
  ·exact absurd (Nat.lt_of_lt_of_le (Heap.lt_size e) z) (Nat.lt_irrefl _)
 have cellK:∀x c,X.env.cells.lookup x=some c→∀v,s.heap.IsCell c v→h'.IsCell c v:=λx c e v ax=>by
  obtain⟨o,ho,hd⟩:=ax
  have nch:c∉ch:=λz=>(hch c z).2.2.1 x c e rfl
  by_cases hc:c∈X.fs
  ·obtain⟨sl,q⟩:=slot c o (I.cne x c e) hc nch ho (I.hU x c e)
   exact⟨_,q,hd⟩
  ·exact⟨o,keep c o (I.cne x c e) hc nch ho (I.hU x c e),hd⟩
 refine⟨I.ok,I.os,hg,⟨λb o e n hb hx=>?_,λb o e n hb hx=>?_,λb o e n hx=>?_,λb o e hx=>?_,λb xs e=>nS b xs (I.base.nS b xs e),λb o xs e=>eJ b o xs (I.base.eJ b o xs e),λb ps e=>?_⟩,?_,λx c e=>?_,?_,λx c e=>?_,λp hp=>?_,hok,I.len⟩
 ·exact keep b o (neL b o e) hb (neC b o e hx) (I.base.keep b o e n hb hx) (I.base.free b o e n hx)
 ·obtain⟨sl,e1⟩:=I.base.slot b o e n hb hx
  obtain⟨sl',e2⟩:=slot b _ (neL b o e) hb (neC b o e hx) e1 (I.base.free b o e n hx)
  exact⟨sl',e2⟩
 ·obtain⟨o',e1⟩:=I.base.there b o e hx
  exact free b o' (neC b o e hx) e1 (I.base.free b o e n hx)
 ·obtain⟨o',e1⟩:=I.base.there b o e hx
  exact there b o' (neC b o e hx) e1
 ·obtain⟨m1,e1⟩:=I.base.nT b ps e
  obtain⟨m2,e2⟩:=nT b _ e1
  exact⟨m1++m2,by rw[e2,Array.append_assoc]⟩
 ·obtain⟨m,hn,hl⟩:=I.loc
  refine⟨m,ns m hn,λi x v e1 e2 e3=>?_⟩
  obtain⟨u,r,l⟩:=hl i x v e1 e2 e3
  refine⟨u,r,?_⟩
  rcases l with l|⟨k,c,e,z⟩
  ·exact .inl l
  ·exact .inr ⟨k,c,e,cellK x c e _ z⟩
 ·obtain⟨v,z⟩:=I.cell x c e
  exact⟨v,cellK x c e v z⟩
 ·obtain⟨m,⟨o,_,_,ho,_⟩,_⟩:=I.loc
  exact free _ o (λz=>(hch _ z).2.1 rfl) ho I.free
 ·obtain⟨v,o,ho,hd⟩:=I.cell x c e
  exact free c o (λz=>(hch c z).2.2.1 x c e rfl) ho (I.hU x c e)
 ·obtain⟨e,n,ne,nf,d⟩:=I.pin p hp
  have nch:p.1∉ch:=λz=>(hch p.1 z).2.2.2 p hp rfl
  exact⟨keep p.1 p.2 ne nf nch e n,free p.1 p.2 nch e n,ne,nf,d⟩
theorem Inv.un{t':Nat}(I:Inv X pins σ H s)(u:Un X.fs [] H H' s.heap h')(hok:HOk X.prog X.w H' h'):Inv X pins σ H' { s with heap:=h',toks:=t' }:=by
 obtain⟨m,⟨o,es,ep,ho,r⟩,_⟩:=id I.loc
 obtain⟨sl,hL⟩:=u.any ho I.free (by simp)
 exact I.step (g':=s.gens) (d':=s.drawn) (ch:=[]) (λ_ z=>nomatch z) (λb o _ hb _ e n=>u.keep b o e n hb (by simp)) (λb o _ hb _ e n=>u.slot b o e n hb (by simp)) (λb o _ e n=>u.free b o e n (by simp)) (λb o _ e=>u.there b o e (by simp)) u.nS u.eJ u.nT (λm' hm=>by
  obtain⟨o',es',ep',ho',r'⟩:=hm
  rw[ho] at ho';cases ho'
  exact⟨_,es',ep',hL,r'⟩) hok I.bare
theorem Inv.call{g':Array GenState}{t':Nat}{d':Drawn}{ch:List Addr}(I:Inv X pins σ H s)(u:Un (frs X.stack) ch H H' s.heap h')(hok:HOk X.prog X.w H' h')(hg:AllBare g')
  (hch:∀b∈ch,(b∈X.ex∨X.s₀.heap.objs.size≤b)∧b≠X.env.locals∧(∀x c,X.env.cells.lookup x=some c→c≠b)∧∀p∈X.pn++pins,p.1≠b) :
  Inv X pins σ H' { s with heap:=h',gens:=g',drawn:=d',toks:=t' }:=by
 obtain⟨m,⟨o,es,ep,ho,r⟩,_⟩:=id I.loc
 obtain⟨sl,hL⟩:=u.any ho I.free λz=>(hch _ z).2.1 rfl
 exact I.step (ch:=ch) hch (λb o hL hb hc e n=>u.keep b o e n (λz=>(List.mem_cons.mp (I.wQ b z)).elim hL hb) hc) (λb o _ _ hc e n=>u.any e n hc) (λb o hc e n=>u.free b o e n hc) (λb o hc e=>u.there b o e hc) u.nS u.eJ u.nT (λm' hm=>by
  obtain⟨o',es',ep',ho',r'⟩:=hm
  rw[ho] at ho';cases ho'
  exact⟨_,es',ep',hL,r'⟩) hok hg
theorem Inv.turned{t':Nat}{it:Addr}(I:Inv X pins σ H s)(k:∀b o,b≠it→s.heap.get? b=some o→h'.get? b=some o)(hn:H it=none)(hL:it≠X.env.locals)
  (h1:it∈X.ex∨X.s₀.heap.objs.size≤it) (h2:∀x c,X.env.cells.lookup x=some c→c≠it) (h3:∀p∈X.pn++pins,p.1≠it):Inv X pins σ H { s with heap:=h',toks:=t' }:=by
 have nit:∀b u,H b=some u→b≠it:=λb u e z=>by rw[z,hn] at e;cases e
 refine I.step (g':=s.gens) (d':=s.drawn) (ch:=[it]) (λb hb=>?_) (λb o _ _ hc e _=>k b o (λz=>hc (by simp[z])) e) (λb o _ _ hc e _=>⟨o.slots,k b o (λz=>hc (by simp[z])) e⟩) (λ_ _ _ _ n=>n)
  (λb o hc e=>⟨o,k b o (λz=>hc (by simp[z])) e⟩) (λ_ _ e=>e) (λ_ _ _ e=>e) (λb ps e=>⟨#[],by rw[e];simp⟩) (λm hm=>?_) (λb u e=>?_) I.bare
 ·have e:b=it:=by simpa using hb
  subst e
  exact⟨h1,hL,h2,h3⟩
 ·obtain⟨o,es,ep,ho,r⟩:=hm
  exact⟨o,es,ep,k _ o (Ne.symm hL) ho,r⟩
 ·refine (I.hok b u e).rS (λc v hc q=>k c v ?_ q) (λ_ q=>q) λ_ _ q=>q
  rcases hc with z|z
  ·rw[z];exact nit b u e
  ·exact nit c _ z
theorem Inv.tok(I:Inv X pins σ H s)(t:Nat):Inv X pins σ H { s with toks:=t }:=I.un (h':=s.heap) (t':=t) Un.refl I.hok
theorem Inv.kept{t':Nat}(I:Inv X pins σ H s)(k:∀b u,s.heap.get? b=some u→h'.get? b=some u):Inv X pins σ H { s with heap:=h',toks:=t' }:=I.un (Un.kept k) (I.hok.kept k)
theorem Inv.laid{a:Addr}{o:HO}{t':Nat}(I:Inv X pins σ H s)(k:∀b u,s.heap.get? b=some u→h'.get? b=some u)(hp:s.heap.objs.size≤a)(new:dI X.prog X.w (upd H a o) h' a o) :
  Inv X pins σ (upd H a o) { s with heap:=h',toks:=t' }:=I.un (Un.laid k hp (I.hok.fresh hp)) (I.hok.laid k hp new)
theorem Inv.write{x e:Addr}{o:HO}{t':Nat}(I:Inv X pins σ H s)(mu:Mut (H x))(he:e=x∨H e=some (.own x))(k:∀b u,b≠e→s.heap.get? b=some u→h'.get? b=some u)(heo:∃u,h'.get? e=some u)
  (new:dI X.prog X.w (upd H x o) h' x o):Inv X pins σ (upd H x o) { s with heap:=h',toks:=t' }:=I.un (Un.write mu he k heo) (I.hok.write mu he k heo new)
theorem Inv.BG{yC:List (Addr×Obj)}(I:Inv X pins σ H s)(h:∀p∈yC,s.heap.get? p.1=some p.2∧H p.1=none∧p.1≠X.env.locals∧p.1∉X.fs∧∀v,p.2.data ≠ .cell v):Inv X yC σ H s :=
 ⟨I.ok,I.os,I.bare,I.base,I.loc,I.cell,I.free,I.hU,λp hp=>(List.mem_append.mp hp).elim (λz=>I.pin p (List.mem_append_left _ z)) (h p),I.hok,I.len⟩
theorem sR{N:List Str}(hN:N.Nodup){i j:Nat}{x:Str}(a:N[i]?=some x)(b:N[j]?=some x):i=j:=by
 obtain⟨h1,e1⟩:=List.getElem?_eq_some_iff.mp a
 obtain⟨h2,e2⟩:=List.getElem?_eq_some_iff.mp b
 exact (List.getElem_inj hN).mp (e1.trans e2.symm)
theorem vQ{M:Model}{A:Around}{E:Value→Shared→Prop}{i:Nat}{x:Str}{v:V}{u:Value}{Q:Unit→Shared→Prop}(I:Inv X pins σ H s)(hN:X.N.Nodup)(hi:X.N[i]?=some x)(hx:Loc X.env.scope x)(r:RelV v u)
  (h:∀s',Inv X pins (σ.set i (some v)) H s'→(∃a,Heap.SameBut a s.heap s'.heap∧(a=X.env.locals∨X.env.cells.lookup x=some a))→Q () s') (hf:X.fn x=true∨X.env.scope.names.lookup x=some .local:=by first|exact .inl rfl|exact .inr rfl|assumption):wpAny M A (storeName X.env x u) Q E s:=by
 obtain⟨m,hn,hl⟩:=id I.loc
 have wR:(X.env.scope.kind == .class || (X.env.scope.kind == .module && X.env.locals != X.env.globals))=false:=by rw[I.ok.kind];rfl
 have hiσ:i<σ.length:=by rw[I.len];exact (List.getElem?_eq_some_iff.mp hi).1
 have cne:=I.cne
 have tracked:∀{a:Addr}{h':Heap},(∃o,s.heap.get? a=some o∧H a=none)→Heap.SameBut a s.heap h'→HOk X.prog X.w H h':=λ{a h'} ha hs b ob e=>by
  obtain⟨_,_,yD⟩:=ha
  refine (I.hok b ob e).rS (λc w' hc q=>(hs.2 c ?_).trans q) (λ_ q=>q) λ_ _ q=>q
  rintro rfl
  rcases hc with rfl|hc
  ·rw[yD] at e;cases e
  ·rw[yD] at hc;cases hc
 rcases hx with hk|hk
 ·refine wpAny_storeName_local hk hn (λh' hn' hs=>?_) wR
  obtain⟨oL,_,_,hoL,_⟩:=id hn
  refine h _ ⟨I.ok,I.os,I.bare,⟨λb o e n hb hx=>?_,λb o e n hb hx=>?_,I.base.free,λb o e hx=>?_,I.base.nS,I.base.eJ,I.base.nT⟩,⟨_,hn',λj y v' e1 e2 e3=>?_⟩,λy c e=>?_,I.free,I.hU,λp hp=>?_,tracked ⟨oL,hoL,I.free⟩ hs,by simpa using I.len⟩ ⟨_,hs,.inl rfl⟩
  ·exact (hs.2 b (Nat.ne_of_lt (Nat.lt_of_lt_of_le (Heap.lt_size e) I.ok.above))).trans (I.base.keep b o e n hb hx)
  ·obtain⟨sl,e1⟩:=I.base.slot b o e n hb hx
   exact⟨sl,(hs.2 b (Nat.ne_of_lt (Nat.lt_of_lt_of_le (Heap.lt_size e) I.ok.above))).trans e1⟩
  ·obtain⟨o',e1⟩:=I.base.there b o e hx
   exact⟨o',(hs.2 b (Nat.ne_of_lt (Nat.lt_of_lt_of_le (Heap.lt_size e) I.ok.above))).trans e1⟩
  ·by_cases hj:j=i
   ·subst hj
    rw[hi] at e1;cases e1
    rw[List.getElem?_set_self hiσ] at e2
    cases e2
    exact⟨u,r,.inl ⟨hk,by simp⟩⟩
   ·rw[List.getElem?_set_ne (Ne.symm hj)] at e2
    obtain⟨u',r',q⟩:=hl j y v' e1 e2 e3
    refine⟨u',r',?_⟩
    rcases q with ⟨k,e⟩|⟨k,c,e,z⟩
    ·refine .inl ⟨k,?_⟩
     have:y≠x:=λe=>hj (sR hN e1 (e ▸ hi))
     simp[this,e]
    ·exact .inr ⟨k,c,e,z.sameBut hs (cne y c e)⟩
  ·obtain⟨w',z⟩:=I.cell y c e
   exact⟨w',z.sameBut hs (cne y c e)⟩
  ·obtain⟨e,n,ne,nf,d⟩:=I.pin p hp
   exact⟨(hs.2 p.1 ne).trans e,n,ne,nf,d⟩
 ·have hfn:X.fn x=true:=by
   rcases hf with z|z
   ·exact z
   ·rw[z] at hk;cases hk
  obtain⟨c,hc⟩:=I.ok.has x (.inl hk)
  obtain⟨w',z⟩:=I.cell x c hc
  refine wpAny_storeName_cell I.ok.kind hk hc z (λh' hc' hs=>?_)
  obtain⟨oc,hoc,QA⟩:=id z
  refine h { s with heap:=h' } ⟨I.ok,I.os,I.bare,⟨λb o e n hb hx=>?_,λb o e n hb hx=>?_,I.base.free,λb o e hx=>?_,I.base.nS,I.base.eJ,I.base.nT⟩,⟨m,hn.sameBut hs (Ne.symm (cne x c hc)),λj y v' e1 e2 e3=>?_⟩,λy c' e=>?_,I.free,I.hU,λp hp=>?_,tracked ⟨oc,hoc,I.hU x c hc⟩ hs,by simpa using I.len⟩ ⟨c,hs,.inr hc⟩
  ·exact (hs.2 b (Nat.ne_of_lt (Nat.lt_of_lt_of_le (Heap.lt_size e) (I.ok.cab x c hfn hc)))).trans (I.base.keep b o e n hb hx)
  ·obtain⟨sl,e1⟩:=I.base.slot b o e n hb hx
   exact⟨sl,(hs.2 b (Nat.ne_of_lt (Nat.lt_of_lt_of_le (Heap.lt_size e) (I.ok.cab x c hfn hc)))).trans e1⟩
  ·obtain⟨o',e1⟩:=I.base.there b o e hx
   exact⟨o',(hs.2 b (Nat.ne_of_lt (Nat.lt_of_lt_of_le (Heap.lt_size e) (I.ok.cab x c hfn hc)))).trans e1⟩
  ·by_cases hj:j=i
   ·subst hj
    rw[hi] at e1;cases e1
    rw[List.getElem?_set_self hiσ] at e2
    cases e2
    exact⟨u,r,.inr ⟨.inl hk,c,hc,hc'⟩⟩
   ·rw[List.getElem?_set_ne (Ne.symm hj)] at e2
    obtain⟨u',r',q⟩:=hl j y v' e1 e2 e3
    refine⟨u',r',?_⟩
    rcases q with q|⟨k,c',e,z'⟩
    ·exact .inl q
    ·refine .inr ⟨k,c',e,z'.sameBut hs ?_⟩
     rintro rfl
     exact hj (sR hN e1 (I.ok.inj _ _ _ e hc ▸ hi))
  ·by_cases hcc:c'=c
   ·subst hcc;exact⟨_,hc'⟩
   ·obtain⟨w2,z2⟩:=I.cell y c' e
    exact⟨w2,z2.sameBut hs hcc⟩
  ·obtain⟨e,n,ne,nf,d⟩:=I.pin p hp
   refine⟨(hs.2 p.1 ?_).trans e,n,ne,nf,d⟩
   intro q
   rw[q,hoc] at e
   have q':oc=p.2:=Option.some.inj e
   exact d w' (by rw[← q'];exact QA)
theorem pj{M:Model}{A:Around}{E:Value→Shared→Prop}{i:Nat}{x:Str}{v:V}{u:Value}{Q:Unit→Shared→Prop}(I:Inv X pins σ H s)(hN:X.N.Nodup)(hi:X.N[i]?=some x)(hx:Loc X.env.scope x)(r:RelV v u)
  (h:∀s',Inv X pins (σ.set i (some v)) H s'→Q () s') (hf:X.fn x=true∨X.env.scope.names.lookup x=some .local:=by first|exact .inl rfl|exact .inr rfl|assumption):wpAny M A (storeName X.env x u) Q E s :=
 vQ I hN hi hx r (λs' I' _=>h s' I') hf
theorem Inv.Kg{s':Shared}{ch:List Addr}(I:Inv X pins σ H s)(ho:s'.os=s.os)(u:Un (frs X.stack) ch H H' s.heap s'.heap)(hok:HOk X.prog X.w H' s'.heap)(hg:AllBare s'.gens)
  (hch:∀b∈ch,(b∈X.ex∨X.s₀.heap.objs.size≤b)∧b≠X.env.locals∧(∀x c,X.env.cells.lookup x=some c→c≠b)∧∀p∈X.pn++pins,p.1≠b):Inv X pins σ H' s':=by
 obtain⟨h',g',d',t',o'⟩:=s'
 have e:o'=s.os:=ho
 subst e
 exact I.call (g':=g') (t':=t') (d':=d') u hok hg hch
end
noncomputable abbrev XK := Value → Option Addr → Hp → Prop
noncomputable abbrev St := List (Option V)
noncomputable abbrev VK := V → Hp → Prop
noncomputable abbrev TE := St → Hp → VK → Prop
noncomputable abbrev TT := St → Hp → (Bool → Hp → Prop) → Prop
noncomputable abbrev TA := St → Hp → (List V → Hp → Prop) → Prop
structure Ends where
 nx:St→Hp→Prop
 rt:VK
 bk:St→Hp→Prop:=λ_ _=>False
 ct:St→Hp→Prop:=λ_ _=>False
noncomputable abbrev TS := Ends → St → Hp → Prop
def EP(X:Cx)(pins:List (Addr×Obj))(σ:St)(Q:VK)(u:Value)(s':Shared):Prop:=∃v H',Inv X pins σ H' s'∧RelV v u∧Q v H'
def TP(X:Cx)(pins:List (Addr×Obj))(σ:St)(Q:Bool→Hp→Prop)(b:Bool)(s':Shared):Prop:=∃H',Inv X pins σ H' s'∧Q b H'
def AP(X:Cx)(pins:List (Addr×Obj))(σ:St)(Q:List V→Hp→Prop)(us:List Value)(s':Shared):Prop:=∃vs H',Inv X pins σ H' s'∧Vals vs us∧Q vs H'
def SP(X:Cx)(pins:List (Addr×Obj))(D:Ends)(f:Flow)(s':Shared):Prop :=
 match f with
 | .next=>∃σ' H',Inv X pins σ' H' s'∧D.nx σ' H'
 | .brk=>∃σ' H',Inv X pins σ' H' s'∧D.bk σ' H'
 | .cont=>∃σ' H',Inv X pins σ' H' s'∧D.ct σ' H'
 | .ret u=>∃v σ' H',Inv X pins σ' H' s'∧RelV v u∧D.rt v H'
def PE(X:Cx)(e:Expr)(t:TE):Prop :=
 ∀(pins:List (Addr×Obj)) (s:Shared) (σ:St) (H:Hp) (Q:VK),Inv X pins σ H s→t σ H Q→wpAny (model X.prog X.w) X.A (eval e X.env) (EP X pins σ Q) X.xe s
def PT(X:Cx)(e:Expr)(t:TT):Prop :=
 ∀(pins:List (Addr×Obj)) (s:Shared) (σ:St) (H:Hp) (Q:Bool→Hp→Prop),Inv X pins σ H s→t σ H Q→wpAny (model X.prog X.w) X.A (isTrue e X.env (eval e X.env)) (TP X pins σ Q) X.xe s
def PW(X:Cx)(e:Expr)(t:TT):Prop :=
 ∀(whole:Sem Value) (pins:List (Addr×Obj)) (s:Shared) (σ:St) (H:Hp) (Q:Bool→Hp→Prop),Inv X pins σ H s→t σ H Q→wpAny (model X.prog X.w) X.A (isTrue e X.env whole) (TP X pins σ Q) X.xe s
theorem PW.pt{X:Cx}{e:Expr}{t:TT}(h:PW X e t):PT X e t:=h _
def PA(X:Cx)(es:List Expr)(t:TA):Prop :=
 ∀(pos:Pos) (pins:List (Addr×Obj)) (s:Shared) (σ:St) (H:Hp) (Q:List V→Hp→Prop),Inv X pins σ H s→t σ H Q→wpAny (model X.prog X.w) X.A (spliced (backTo pos (starEach es X.env))) (AP X pins σ Q) X.xe s
def PS(X:Cx)(st:Stmt)(t:TS):Prop :=
 ∀(pins:List (Addr×Obj)) (s:Shared) (σ:St) (H:Hp) (D:Ends),Inv X pins σ H s→t D σ H→wpAny (model X.prog X.w) X.A (exec st X.env) (SP X pins D) X.xe s
def PSs(X:Cx)(st:List Stmt)(t:TS):Prop :=
 ∀(pins:List (Addr×Obj)) (s:Shared) (σ:St) (H:Hp) (D:Ends),Inv X pins σ H s→t D σ H→wpAny (model X.prog X.w) X.A (execs st X.env) (SP X pins D) X.xe s
theorem thn{α:Type}{t:Sem α}{Q Q':α→Shared→Prop}{M:Model}{A:Around}{E:Value→Shared→Prop}{s:Shared}(h:wpAny M A t Q E s)(hQ:∀a s,Q a s→Q' a s):wpAny M A t Q' E s:=wpAny_mono h hQ λ_ _ x=>x
section
variable{X:Cx}
theorem bin{a b:Expr}{ta tb:TE}(ha:PE X a ta)(hb:PE X b tb){pins:List (Addr×Obj)}{s:Shared}{σ:St}{H:Hp}{R:V→V→Hp→Prop}(I:Inv X pins σ H s)(h:ta σ H λx H1=>tb σ H1 λy H2=>R x y H2)
  {α:Type}{Q:α→Shared→Prop}{f:Value→Value→Sem α}
  (hf:∀v u s2 x y H2,Inv X pins σ H2 s2→RelV x v→RelV y u→R x y H2→wpAny (model X.prog X.w) X.A (f v u) Q X.xe s2) :
  wpAny (model X.prog X.w) X.A (eval a X.env) (λv s₁=>wpAny (model X.prog X.w) X.A (eval b X.env) (λu s₂=>wpAny (model X.prog X.w) X.A (f v u) Q X.xe s₂) X.xe s₁) X.xe s:=by
 refine thn (ha pins s σ H _ I h) λv s1 ax=>?_
 obtain⟨x,H1,I1,r1,q1⟩:=ax
 refine thn (hb pins s1 σ H1 _ I1 q1) λu s2 eA=>?_
 obtain⟨y,H2,I2,r2,q2⟩:=eA
 exact hf v u s2 x y H2 I2 r1 r2 q2
def QB(i:Nat):TE:=λσ H Q=>∃v,σ[i]?=some (some v)∧Q v H
def tC(v:V):TE:=λ_ H Q=>Q v H
theorem Al{i:Nat}{x:Str}{pos:Pos}(hN:X.N[i]?=some x)(hv:Vis X.env.scope x)(hd:(x==("__debug__":Str))=false:=by decide)(hcd:(x==("__classdict__":Str))=false:=by decide):PE X (.Name x pos) (QB i):=by
 intro pins s σ H Q I h
 obtain⟨v,e,h⟩:=h
 obtain⟨m,hn,hl⟩:=I.loc
 obtain⟨u,r,l⟩:=hl i x v hN e hv
 have fin:EP X pins σ Q u s:=⟨v,H,I,r,h⟩
 rcases l with ⟨hk,hm⟩|⟨hk,c,hc,BH⟩
 ·exact wpAny_Name (wpAny_loadName_local I.ok.kind hk hn hm fin) hd
 ·rcases hk with hk|hk
  ·exact wpAny_Name (wpAny_loadName_cell I.ok.kind hk hc BH fin) hd
  ·exact wpAny_Name (wpAny_loadName_free I.ok.kind hk hc BH fin hcd) hd
theorem K1{i j pos}:PE X (.Constant (.int i) j pos) (tC (.int i)):=λ_ _ _ H _ I h=>wpAny_Constant_int ⟨.int i,H,I.tok _,⟨_,rfl⟩,h⟩
theorem NQ{b j pos}:PE X (.Constant (.bool b) j pos) (tC (.bl b)):=λ_ _ _ H _ I h=>Constant_bool ⟨.bl b,H,I,rfl,h⟩
theorem K2{j pos}:PE X (.Constant .none j pos) (tC .non):=λ_ _ _ H _ I h=>Constant_none ⟨.non,H,I,rfl,h⟩
theorem K3{x j pos}:PE X (.Constant (.str x) j pos) (tC (.str x)):=λ_ _ _ H _ I h=>Calls.Constant_str ⟨.str x,H,I.tok _,⟨_,rfl⟩,h⟩
def Gl(X:Cx)(x:Str):Prop:=X.env.kindOf x=some .globalImplicit
theorem pk{E:Value→Shared→Prop}{pins:List (Addr×Obj)}{s:Shared}{σ:St}{H:Hp}{x:Str}{u:Value}{pos:Pos}{Q:Value→Shared→Prop}(I:Inv X pins σ H s)(hg:Gl X x)(hm:X.mg x=some u)(h:Q u s)
  (hd:(x==("__debug__":Str))=false:=by decide):wpAny (model X.prog X.w) X.A (eval (.Name x pos) X.env) Q E s :=
 Calls.Name_function_global I.ok.kind hg (Calls.loadGlobal_global (by rw[I.ok.glob];exact I.mod.glob.keeps I.bk) hm h) hd
theorem oi{E:Value→Shared→Prop}{pins:List (Addr×Obj)}{s:Shared}{σ:St}{H:Hp}{x:Str}{u:Value}{pos:Pos}{Q:Value→Shared→Prop}(I:Inv X pins σ H s)(hg:Gl X x)(hm:X.mg x=none)(hv:bootBuiltins x=some u)(h:Q u s)
  (hn:x≠"__name__":=by decide) (hd:(x==("__debug__":Str))=false:=by decide):wpAny (model X.prog X.w) X.A (eval (.Name x pos) X.env) Q E s:=by
 obtain⟨mb,h1,h2⟩:=I.mod.blt
 exact Calls.Name_function_global I.ok.kind hg (Calls.loadGlobal_builtin (by rw[I.ok.glob];exact I.mod.glob.keeps I.bk) hm (by rw[I.ok.blt];exact h1.keeps I.bk) ((h2 x hn).trans hv) h) hd
theorem BI{x:Str}{v:V}{u:Value}{pos:Pos}(hg:Gl X x)(hm:X.mg x=some u)(r:RelV v u)(hd:(x==("__debug__":Str))=false:=by decide):PE X (.Name x pos) (tC v) :=
 λ_ _ _ H _ I h=>pk I hg hm ⟨v,H,I,r,h⟩ hd
theorem BJ{x:Str}{v:V}{u:Value}{pos:Pos}(hg:Gl X x)(hm:X.mg x=none)(hv:bootBuiltins x=some u)(r:RelV v u)(hn:x≠"__name__":=by decide)(hd:(x==("__debug__":Str))=false:=by decide):PE X (.Name x pos) (tC v) :=
 λ_ _ _ H _ I h=>oi I hg hm hv ⟨v,H,I,r,h⟩ hn hd
variable{a b:Expr}{ta tb:TE}{pos:Pos}
def PC(X:Cx)(op:CmpOp)(a b:Expr)(t:TE):Prop :=
 ∀(pins:List (Addr×Obj)) (s:Shared) (σ:St) (H:Hp) (Q:VK),Inv X pins σ H s→t σ H Q →
  wpAny (model X.prog X.w) X.A (eval a X.env) (λv s₁=>wpAny (model X.prog X.w) X.A (eval b X.env) (λu s₂=>wpAny (model X.prog X.w) X.A (compareOp op v u) (EP X pins σ Q) X.xe s₂) X.xe s₁) X.xe s
theorem EO(b:Expr){op:CmpOp}(h:op ≠ .In)(h2:op ≠ .NotIn):behindInMarks op b=false:=by
 have e1:(op==CmpOp.In)=false:=by cases op<;>first|rfl|exact absurd rfl h
 have e2:(op==CmpOp.NotIn)=false:=by cases op<;>first|rfl|exact absurd rfl h2
 cases b<;>simp[behindInMarks,e1,e2]
def tB(t:TE):TT:=λσ H Q=>t σ H λx H1=>∃c,x = .bl c∧Q c H1
theorem K4{op:CmpOp}{t:TE}(h:PC X op a b t)(h1:behindInMarks op b=false:=by first|exact EO _ (by decide) (by decide)|rfl):PT X (.Compare a [op] [b] pos) (tB t):=by
 intro pins s σ H Q I hw
 refine wpAny_isTrue_Compare1 (thn (h pins s σ H _ I hw) λv s1 h1=>thn h1 λu s2 h2=>thn h2 λc s3 ax=>?_) h1
 obtain⟨x,H1,I1,r1,q1⟩:=ax
 obtain⟨d,rfl,q⟩:=q1
 cases r1
 exact wpAny_truthy_bool ⟨H1,I1,q⟩
theorem K5{e:Expr}{t:TE}(h:PE X e t)(he:∀whole,isTrue e X.env whole=(do let v ← whole;standAt e.pos;holding [v] (truthy v)):=by intro _;rfl):PT X e (tB t):=by
 intro pins s σ H Q I hw
 refine isTrue_plain (thn (h pins s σ H _ I hw) λv s1 ax=>?_) (he _)
 obtain⟨x,H1,I1,r1,q1⟩:=ax
 obtain⟨d,rfl,q⟩:=q1
 cases r1
 exact wpAny_truthy_bool ⟨H1,I1,q⟩
variable{tA tB':TT}{rest:List Expr}
def tOr(t u:TT):TT:=λσ H Q=>t σ H λc H1=>if c=true then Q true H1 else u σ H1 Q
def QC(t:TT):TT:=λσ H Q=>t σ H λc H1=>Q (!c) H1
theorem K6(ha:PT X a tA):PW X (.BoolOp .Or [a] pos) tA:=by
 intro wh pins s σ H Q I h
 refine isTrue_or (thn (ha pins s σ H Q I h) λc s1 e=>?_)
 cases c with
 | false=>exact isTrue_or_nil e
 | true=>exact e
theorem NR(ha:PT X a tA)(hb:PW X (.BoolOp .Or (b::rest) pos) tB'):PW X (.BoolOp .Or (a::b::rest) pos) (tOr tA tB'):=by
 intro wh pins s σ H Q I h
 refine isTrue_or (thn (ha pins s σ H _ I h) λc s1 ax=>?_)
 obtain⟨H1,I1,q1⟩:=ax
 cases c with
 | true=>exact⟨H1,I1,q1⟩
 | false=>exact hb wh pins s1 σ H1 Q I1 q1
theorem K7(ha:PT X a tA):PT X (.UnaryOp .Not a pos) (QC tA):=by
 intro pins s σ H Q I h
 exact isTrue_not (ha pins s σ H (λc H1=>Q (!c) H1) I h)
def NS(ta tb:TE):TE:=λσ H Q=>ta σ H λx H1=>∃c,x = .bl c∧if c=true then tb σ H1 Q else Q (.bl false) H1
def NT(ta:TE):TE:=λσ H Q=>ta σ H λx H1=>∃c,x = .bl c∧Q (.bl (!c)) H1
theorem K8{op}{t:TE}(h:PE X a t):PE X (.BoolOp op [a] pos) t:=λpins s σ H Q I hw=>BoolOp_one (h pins s σ H Q I hw)
theorem K9(ha:PE X a ta)(hb:PE X (.BoolOp .And (b::rest) pos) tb):PE X (.BoolOp .And (a::b::rest) pos) (NS ta tb):=by
 intro pins s σ H Q I h
 refine BoolOp_and (thn (ha pins s σ H _ I h) λv s1 ax=>?_)
 obtain⟨x,H1,I1,r1,q1⟩:=ax
 obtain⟨c,rfl,q1⟩:=q1
 cases r1
 refine wpAny_truthy_bool ?_
 cases c with
 | true=>exact hb pins s1 σ H1 Q I1 q1
 | false=>exact⟨.bl false,H1,I1,rfl,q1⟩
theorem K_(ha:PE X a ta):PE X (.UnaryOp .Not a pos) (NT ta):=by
 intro pins s σ H Q I h
 refine UnaryOp_ (thn (ha pins s σ H _ I h) λv s1 ax=>?_)
 obtain⟨x,H1,I1,r1,q1⟩:=ax
 obtain⟨c,rfl,q1⟩:=q1
 cases r1
 exact not_of (wpAny_truthy_bool ⟨.bl (!c),H1,I1,rfl,q1⟩)
def tIf(t:TT)(ta tb:TE):TE:=λσ H Q=>t σ H λc H1=>if c=true then ta σ H1 Q else tb σ H1 Q
theorem ER{c:Expr}(hc:PT X c tA)(ha:PE X a ta)(hb:PE X b tb):PE X (.IfExp c a b pos) (tIf tA ta tb):=by
 intro pins s σ H Q I h
 refine wpAny_IfExp (thn (hc pins s σ H _ I h) λd s1 ax=>?_)
 obtain⟨H1,I1,q1⟩:=ax
 cases d with
 | true=>exact ha pins s1 σ H1 Q I1 q1
 | false=>exact hb pins s1 σ H1 Q I1 q1
end
def SqL(K:PySem.W.Frag)(H:Hp)(a:Addr)(xs:List V):Prop :=
 Rd H a (.lst xs) ∨
  ∃(o:Obj) (its:Array Value) (n:Nat),K.lookup a=some o∧o.cls = .type "list"∧o.dict=none∧o.data = .seq its n∧its.size≤sizeLine∧Vals xs its.toList
def SqT(K:PySem.W.Frag)(H:Hp)(a:Addr)(xs:List V):Prop :=
 Rd H a (.tup xs) ∨
  ∃(o:Obj) (its:Array Value) (n:Nat),K.lookup a=some o∧o.cls = .type "tuple"∧o.data = .seq its n∧its.size≤sizeLine∧Vals xs its.toList
def QD:Value→Option V
 | .none=>some .non
 | .bool b=>some (.bl b)
 | .int i _=>some (.int i)
 | .str x _=>some (.str x)
 | .bytes b _=>some (.byt b)
 | .float b _=>some (.flt b)
 | .ref a=>some (.ref a)
 | .type n=>some (.ty n)
 | _=>none
theorem RelV.abs{x:V}{u:Value}(r:RelV x u):QD u=some x:=by
 cases x with
 | non=>cases r;rfl
 | bl _=>cases r;rfl
 | int _=>obtain⟨t,rfl⟩:=r;rfl
 | str _=>obtain⟨t,rfl⟩:=r;rfl
 | byt _=>obtain⟨t,rfl⟩:=r;rfl
 | flt _=>obtain⟨t,rfl⟩:=r;rfl
 | ref _=>cases r;rfl
 | ty _=>cases r;rfl
theorem RelV.inj{x y:V}{u:Value}(r:RelV x u)(q:RelV y u):x=y:=Option.some.inj (r.abs.symm.trans q.abs)
theorem Vals.inj:∀{xs ys:List V}{us:List Value},Vals xs us→Vals ys us→xs=ys
 | _,_,_,.nil,.nil=>rfl
 | _,_,_,.cons r t,.cons r' t'=>by rw[r.inj r',Vals.inj t t']
section
variable{X:Cx}{pins:List (Addr×Obj)}{σ:St}{H:Hp}{s:Shared}{a:Addr}{xs ys:List V}
theorem SqL.of{K:PySem.W.Frag}(h:H a=some (.lst xs)):SqL K H a xs:=.inl (.inl h)
theorem SqT.of{K:PySem.W.Frag}(h:H a=some (.tup xs)):SqT K H a xs:=.inl (.inl h)
theorem Inv.list(I:Inv X pins σ H s)(h:SqL X.K H a xs):∃its:List Value,Vals xs its∧PlainL s.heap a its.toArray∧xs.length≤sizeLine:=by
 rcases h with h|⟨o,its,n,hk,hc,hd,hs,hz,r⟩
 ·obtain⟨z,its,n,r,e⟩:=h.ok I.hok
  exact⟨its,r,⟨_,n,e,rfl,rfl,rfl⟩,z⟩
 ·refine⟨its.toList,r,⟨o,n,I.kIn a o hk,hc,hd,by simpa using hs⟩,?_⟩
  have e:=r.length
  simp only[Array.length_toList] at e
  lia
theorem Inv.tuple(I:Inv X pins σ H s)(h:SqT X.K H a xs):∃its:List Value,Vals xs its∧IsTup s.heap a its.toArray∧xs.length≤sizeLine:=by
 rcases h with h|⟨o,its,n,hk,hc,hs,hz,r⟩
 ·obtain⟨z,its,r,p⟩:=h.ok I.hok
  exact⟨its,r,p,z⟩
 ·refine⟨its.toList,r,⟨o,I.kIn a o hk,hc,n,by simpa using hs⟩,?_⟩
  have e:=r.length
  simp only[Array.length_toList] at e
  lia
theorem Inv.yE(I:Inv X pins σ H s)(h:SqL X.K H a xs)(h':SqL X.K H a ys):xs=ys:=by
 obtain⟨its,r,⟨o,n,e,_,_,d⟩,_⟩:=I.list h
 obtain⟨its',r',⟨o',n',e',_,_,d'⟩,_⟩:=I.list h'
 rw[e] at e';cases e'
 rw[d] at d'
 injection d' with d1 _
 have:its=its':=by simpa using congrArg Array.toList d1
 subst this
 exact r.inj r'
theorem Inv.vR(I:Inv X pins σ H s)(h:SqT X.K H a xs)(h':SqT X.K H a ys):xs=ys:=by
 obtain⟨its,r,⟨o,e,_,n,d⟩,_⟩:=I.tuple h
 obtain⟨its',r',⟨o',e',_,n',d'⟩,_⟩:=I.tuple h'
 rw[e] at e';cases e'
 rw[d] at d'
 injection d' with d1 _
 have:its=its':=by simpa using congrArg Array.toList d1
 subst this
 exact r.inj r'
end
noncomputable abbrev Cx.vc (X : Cx) (E : Value → Shared → Prop) : Cx := { X with xe := E }
noncomputable abbrev Cx.nox (X : Cx) : Cx := X.vc fun _ _ => False
theorem Cx.Ok.vc{X:Cx}(ok:X.Ok)(E:Value→Shared→Prop):(X.vc E).Ok :=
 ⟨ok.mod,ok.kind,ok.glob,ok.blt,ok.above,ok.inj,ok.has,ok.cab,ok.hd,ok.frames,ok.stk,ok.exf,ok.bs,ok.bsz,ok.wO,ok.Ak,ok.oh,ok.frf⟩
theorem Cx.Ok.lV{X:Cx}{E:Value→Shared→Prop}(ok:(X.vc E).Ok):X.Ok :=
 ⟨ok.mod,ok.kind,ok.glob,ok.blt,ok.above,ok.inj,ok.has,ok.cab,ok.hd,ok.frames,ok.stk,ok.exf,ok.bs,ok.bsz,ok.wO,ok.Ak,ok.oh,ok.frf⟩
section
variable{X:Cx}{pins:List (Addr×Obj)}{σ:St}{H:Hp}{s:Shared}{E:Value→Shared→Prop}
theorem Inv.vc(I:Inv X pins σ H s)(E:Value→Shared→Prop):Inv (X.vc E) pins σ H s:=⟨I.ok.vc E,I.os,I.bare,I.base,I.loc,I.cell,I.free,I.hU,I.pin,I.hok,I.len⟩
theorem Inv.lV(I:Inv (X.vc E) pins σ H s):Inv X pins σ H s:=⟨I.ok.lV,I.os,I.bare,I.base,I.loc,I.cell,I.free,I.hU,I.pin,I.hok,I.len⟩
theorem SP.lV{D:Ends}{f:Flow}{s':Shared}(h:SP (X.vc E) pins D f s'):SP X pins D f s':=by
 cases f with
 | next=>obtain⟨σ',H',I,q⟩:=h;exact⟨σ',H',I.lV,q⟩
 | brk=>obtain⟨σ',H',I,q⟩:=h;exact⟨σ',H',I.lV,q⟩
 | cont=>obtain⟨σ',H',I,q⟩:=h;exact⟨σ',H',I.lV,q⟩
 | ret u=>obtain⟨v,σ',H',I,r,q⟩:=h;exact⟨v,σ',H',I.lV,r,q⟩
theorem PSs.nox{st:List Stmt}{t:TS}(h:PSs X.nox st t):PSs X st t:=λpins s σ H D I hw =>
 wpAny_mono (h pins s σ H D (I.vc _) hw) (λ_ _ q=>q.lV) λ_ _ z=>False.elim z
end
section
variable{X:Cx}{st:Stmt}{rest:List Stmt}{t u:TS}{e:Expr}{te:TE}{pos:Pos}
def NU:TS:=λD σ H=>D.nx σ H
def QE(t u:TS):TS:=λD σ H=>t { D with nx:=u D } σ H
theorem HY:PSs X [] NU:=λ_ _ σ H _ I h=>wpAny_execs_nil ⟨σ,H,I,h⟩
theorem ES(h1:PS X st t)(h2:PSs X rest u):PSs X (st::rest) (QE t u):=by
 intro pins s σ H D I h
 refine wpAny_execs_cons (thn (h1 pins s σ H { D with nx:=u D } I h) λf s1 q=>?_)
 cases f with
 | next =>
  obtain⟨σ',H',I',q⟩:=q
  exact h2 pins s1 σ' H' D I' q
 | ret v=>exact q
 | brk=>exact q
 | cont=>exact q
theorem HZ(h1:PS X st t):PSs X [st] t:=by
 intro pins s σ H D I h
 refine wpAny_execs_cons (thn (h1 pins s σ H D I h) λf s1 q=>?_)
 cases f with
 | next=>exact wpAny_execs_nil q
 | ret v=>exact q
 | brk=>exact q
 | cont=>exact q
theorem Inv.quiet{pins:List (Addr×Obj)}{σ:St}{H:Hp}{s:Shared}(I:Inv X pins σ H s):interactive X.env=false:=by simp[interactive,I.ok.kind]
def NV(te:TE):TS:=λD σ H=>te σ H λ_ H1=>D.nx σ H1
theorem BK(he:PE X e te)(hs:swapsWith e none pos.line X.env=pure false:=by rfl):PS X (.Expr e pos) (NV te):=by
 intro pins s σ H D I h
 exact wpAny_Expr_any (thn (he pins s σ H _ I h) λv s1 ⟨x,H1,I1,r1,q1⟩=>⟨σ,H1,I1,q1⟩) I.quiet hs
def QF(te:TE):TS:=λD σ H=>te σ H D.rt
theorem La(he:PE X e te):PS X (.Return (some e) pos) (QF te):=by
 intro pins s σ H D I h
 exact wpAny_Return_some (thn (he pins s σ H _ I h) λv s1 ⟨x,H1,I1,r1,q1⟩=>⟨x,σ,H1,I1,r1,q1⟩)
def QG(c:TT)(t u:TS):TS:=λD σ H=>c σ H λb H1=>if b=true then t D σ H1 else u D σ H1
theorem NW{c:Expr}{a b:List Stmt}{tc:TT}(hc:PT X c tc)(ha:PSs X a t)(hb:PSs X b u):PS X (.If c a b pos) (QG tc t u):=by
 intro pins s σ H D I h
 refine wpAny_If (thn (hc pins s σ H _ I h) λd s1 ax=>?_)
 obtain⟨H1,I1,q1⟩:=ax
 cases d with
 | true=>exact ha pins s1 σ H1 D I1 q1
 | false=>exact hb pins s1 σ H1 D I1 q1
def Lb:TS:=λ_ _ _=>False
theorem ET:PS X st Lb:=λ_ _ _ _ _ _ h=>h.elim
end
noncomputable abbrev TG := V → St → Hp → (St → Hp → Prop) → Prop
noncomputable abbrev TGs := List V → St → Hp → (St → Hp → Prop) → Prop
def PG(X:Cx)(target:Expr)(t:TG):Prop :=
 ∀(pins:List (Addr×Obj)) (s:Shared) (σ:St) (H:Hp) (v:V) (u:Value) (Q:St→Hp→Prop),Inv X pins σ H s→RelV v u→t v σ H Q →
  wpAny (model X.prog X.w) X.A (assign target X.env u) (λ_ s'=>∃σ' H',Inv X pins σ' H' s'∧Q σ' H') X.xe s
def PGs(X:Cx)(ts:List Expr)(t:TGs):Prop :=
 ∀(pins:List (Addr×Obj)) (s:Shared) (σ:St) (H:Hp) (vs:List V) (us:List Value) (Q:St→Hp→Prop),Inv X pins σ H s→Vals vs us→t vs σ H Q →
  wpAny (model X.prog X.w) X.A (assignInOrder ((assignEach ts X.env).map (·.2)) us) (λ_ s'=>∃σ' H',Inv X pins σ' H' s'∧Q σ' H') X.xe s
noncomputable abbrev Lc := V → V → V → Hp → (Hp → Prop) → Prop
def NX(X:Cx)(t:Lc):Prop :=
 ∀(pins:List (Addr×Obj)) (s:Shared) (σ:St) (H:Hp) (o i v:V) (ov iv u:Value) (Q:Hp→Prop),Inv X pins σ H s→RelV o ov→RelV i iv→RelV v u→t o i v H Q →
  wpAny (model X.prog X.w) X.A (setItem ov iv u) (λ_ s'=>∃H',Inv X pins σ H' s'∧Q H') X.xe s
section
variable{X:Cx}{pos:Pos}
def EU(i:Nat):TG:=λv σ H Q=>Q (σ.set i (some v)) H
theorem jK{i:Nat}{x:Str}(hN:X.N.Nodup)(hi:X.N[i]?=some x)(hx:Loc X.env.scope x)(hf:X.fn x=true∨X.env.scope.names.lookup x=some .local:=by first|exact .inl rfl|exact .inr rfl|assumption):PG X (.Name x pos) (EU i):=by
 intro pins s σ H v u Q I r h
 exact wpAny_assign_Name (pj I hN hi hx r (λs' I'=>⟨_,H,I',h⟩) hf)
def QH:TGs:=λvs σ H Q=>vs=[]∧Q σ H
def NY(t:TG)(u:TGs):TGs:=λvs σ H Q=>∃v r,vs=v::r∧t v σ H λσ' H'=>u r σ' H' Q
theorem wU:PGs X [] QH:=by
 intro pins s σ H vs us Q I r h
 obtain⟨e,h⟩:=h
 subst e
 cases r
 exact assignInOrder_nil ⟨σ,H,I,h⟩
theorem jk{e:Expr}{es:List Expr}{t:TG}{u:TGs}(h1:PG X e t)(h2:PGs X es u)
  (hs:(assignEach (e::es) X.env).map (·.2)=assign e X.env::(assignEach es X.env).map (·.2):=by rfl):PGs X (e::es) (NY t u):=by
 intro pins s σ H vs us Q I r h
 obtain⟨v,vr,e1,h⟩:=h
 subst e1
 cases r with
 | cons r rr =>
  rw[hs]
  refine assignInOrder_cons (thn (h1 pins s σ H _ _ _ I r h) λ_ s1 ax=>?_)
  obtain⟨σ1,H1,I1,q1⟩:=ax
  exact h2 pins s1 σ1 H1 _ _ Q I1 rr q1
def QI(K:PySem.W.Frag)(n:Nat)(t:TGs):TG:=λv σ H Q=>∃a xs,v = .ref a∧SqT K H a xs∧xs.length=n∧t xs σ H Q
theorem EV{es:List Expr}{k:Nat}{t:TGs}{n:Nat}(hc:X.calm=true)(h:PGs X es t)
  (hn:(assignEach es X.env).length=n:=by rfl) (hst:(assignEach es X.env).findIdx? (·.1)=none:=by rfl):PG X (.Tuple es k pos) (QI X.K n t):=by
 intro pins s σ H v u Q I r hw
 obtain⟨a,xs,e1,hq,hl,hw⟩:=hw
 subst e1
 cases r
 obtain⟨its,rv,ht,hz⟩:=I.tuple hq
 refine assign_Tuple_tuple (I.ok.hd hc) ht (by simp[hn,← hl,rv.length]) hst λh' hx=>?_
 have I1:Inv X pins σ H { s with heap:=h' }:=I.kept (t':=s.toks) λb o e=>hx b o (Nat.ne_of_lt (Heap.lt_size e)) e
 exact h pins _ σ H xs _ Q I1 (by simpa using rv) hw
def QJ(to ti:TE)(t:Lc):TG:=λv σ H Q=>to σ H λo H1=>ti σ H1 λi H2=>t o i v H2 λH3=>Q σ H3
theorem Le{o i:Expr}{to ti:TE}{t:Lc}(ho:PE X o to)(hi:PE X i ti)(hs:NX X t)
  (ha:∀v,assign (.Subscript o i pos) X.env v=(do
   let ov ← holding [v] (eval o X.env)
   let iv ← holding [v,ov] (eval i X.env)
   standAt pos
   holding [v,ov,iv] (setItem ov iv v)
   release [v,ov,iv] []):=by intro _;rfl):PG X (.Subscript o i pos) (QJ to ti t):=by
 intro pins s σ H v u Q I r h
 rw[ha]
 refine wpAny_bind (wpAny_holding (thn (ho pins s σ H _ I h) λov s1 ax=>?_))
 obtain⟨x,H1,I1,r1,q1⟩:=ax
 refine wpAny_bind (wpAny_holding (thn (hi pins s1 σ H1 _ I1 q1) λiv s2 eA=>?_))
 obtain⟨y,H2,I2,r2,q2⟩:=eA
 refine wpAny_bind (wpAny_standAt (wpAny_bind (wpAny_holding (thn (hs pins s2 σ H2 x y v ov iv u _ I2 r1 r2 r q2) λ_ s3 yF=>?_))))
 obtain⟨H3,I3,q3⟩:=yF
 exact wpAny_release ⟨σ,H3,I3,q3⟩
def Lf(te:TE)(g:TG):TS:=λD σ H=>te σ H λx H1=>g x σ H1 D.nx
theorem Am{tg e:Expr}{te:TE}{g:TG}(he:PE X e te)(hg:PG X tg g)(hs:swapsWithSole [tg] e pos.line X.env=pure false:=by rfl)(hw:swappedStores [tg] e X.env=pure none:=by rfl)
  (h1:(assignEach [tg] X.env).map (·.2)=[assign tg X.env]:=by rfl):PS X (.Assign [tg] e pos) (Lf te g):=by
 intro pins s σ H D I h
 refine wpAny_Assign_stores (thn (he pins s σ H _ I h) λv s1 ax=>?_) hs hw
 obtain⟨x,H1,I1,r1,q1⟩:=ax
 rw[h1]
 exact thn (hg pins s1 σ H1 x v _ I1 r1 q1) λ_ s2 q=>q
theorem Lg{i:Nat}{x:Str}{e:Expr}{te:TE}{pos':Pos}(hN:X.N.Nodup)(hi:X.N[i]?=some x)(hx:Loc X.env.scope x)(he:PE X e te)(hs:swapsWith e (some (.Name x pos')) pos.line X.env=pure false:=by rfl)(hf:X.fn x=true∨X.env.scope.names.lookup x=some .local:=by first|exact .inl rfl|exact .inr rfl|assumption) :
  PS X (.Assign [.Name x pos'] e pos) (Lf te (EU i)):=by
 intro pins s σ H D I h
 refine wpAny_Assign_Name (thn (he pins s σ H _ I h) λv s1 ax=>?_) hs
 obtain⟨y,H1,I1,r1,q1⟩:=ax
 exact pj I1 hN hi hx r1 (λs2 I2=>⟨_,H1,I2,q1⟩) hf
end
section
variable{X:Cx}{pos:Pos}
def Lh(c:TT)(tb:TS):TS:=λD σ H=>∃W:Nat→St→Hp→Prop,(∃m,W m σ H)∧∀m σ H,W m σ H →
 c σ H λb H1=>if b=true then ∃N:St→Hp→Prop,(∀σ' H',N σ' H'→∃m',m'<m∧W m' σ' H')∧tb { D with nx:=N,ct:=N,bk:=D.nx } σ H1 else D.nx σ H1
theorem EW{c:Expr}{body:List Stmt}{tc:TT}{tb:TS}(hp:PassesOwn (model X.prog X.w) X.A X.env X.xe)(hc:PT X c tc)(hb:PSs X body tb):PS X (.While c body [] pos) (Lh tc tb):=by
 intro pins s σ H D I h
 obtain⟨W,⟨m0,w0⟩,turn⟩:=h
 refine wpAny_While (codeAny_whileLoop (λn s'=>∃σ' H',Inv X pins σ' H' s'∧W n σ' H') ?_ m0 ⟨σ,H,I,w0⟩)
 rintro n s1 ⟨σ1,H1,I1,w1⟩
 refine wpAny_passesOwn hp (thn (hc pins s1 σ1 H1 _ I1 (turn n σ1 H1 w1)) λb s2 ax=>?_)
 obtain⟨H2,I2,q2⟩:=ax
 cases b with
 | true =>
  obtain⟨N,hN,q2⟩:=q2
  rw[if_pos rfl]
  refine wpAny_passesOwn hp (thn (hb pins s2 σ1 H2 _ I2 q2) λf s3 q3=>?_)
  cases f with
  | next =>
   obtain⟨σ3,H3,I3,n3⟩:=q3
   obtain⟨m',hm,w3⟩:=hN σ3 H3 n3
   exact⟨m',hm,σ3,H3,I3,w3⟩
  | cont =>
   obtain⟨σ3,H3,I3,n3⟩:=q3
   obtain⟨m',hm,w3⟩:=hN σ3 H3 n3
   exact⟨m',hm,σ3,H3,I3,w3⟩
  | brk=>exact q3
  | ret v=>exact q3
 | false =>
  rw[if_neg Bool.false_ne_true]
  exact wpAny_execs_nil ⟨σ1,H2,I2,q2⟩
end
structure It where
 go:Nat→Hp→Prop
 yld:Nat→Hp→V→Hp→Prop
 stop:Nat→Hp→Prop
def lO(X:Cx)(pins:List (Addr×Obj))(H:Hp)(b:Addr):Prop :=
 H b=none∧b≠X.env.locals∧b∉X.fs∧(b∈X.ex∨X.s₀.heap.objs.size≤b)∧(∀x c,X.env.cells.lookup x=some c→c≠b)∧∀p∈X.pn++pins,p.1≠b
theorem Inv.yG{X:Cx}{pins:List (Addr×Obj)}{σ:St}{H H':Hp}{s:Shared}{b:Addr}(I:Inv X pins σ H s)(hb:s.heap.objs.size≤b)(hn:H' b=none):lO X pins H' b:=by
 refine⟨hn,Nat.ne_of_gt (Nat.lt_of_lt_of_le I.lt hb),I.Qz hb,.inr (Nat.le_trans I.sz hb),λx c e z=>?_,λp hp z=>?_⟩
 ·obtain⟨v,q⟩:=I.cell x c e
  exact absurd (Nat.lt_of_lt_of_le q.lt (by rw[z];exact hb)) (Nat.lt_irrefl _)
 ·exact absurd (Nat.lt_of_lt_of_le (Heap.lt_size (I.pin p hp).1) (by rw[z];exact hb)) (Nat.lt_irrefl _)
structure Turn(P:Program)(w:World)(K:PySem.W.Frag)(tg:Expr)(J:It)(fp:List Addr)(it:Addr)(tn:Nat→Heap→Prop):Prop where
 mem:it∈fp
 obj:∀i h,tn i h→∀b∈fp,∃o,h.get? b=some o∧∀v,o.data ≠ .cell v
 keep:∀i h h',tn i h→(∀b∈fp,∀o,h.get? b=some o→h'.get? b=some o)→tn i h'
 item:∀(X:Cx),X.prog=P→X.w=w→X.K=K→X.calm=true→∀(i:Nat) (pins:List (Addr×Obj)) (s:Shared) (σ:St) (H:Hp) (E:Value→Shared→Prop),Inv X pins σ H s→(∀b∈fp,lO X pins H b)→tn i s.heap→J.go i H →
  wpAny (model P w) X.A (pyNext (.ref it)) (λr s1=>∃u,r=some u ∧
   wpAny (model P w) X.A (letOwnedTupleGo tg (.ref it) u) (λ_ s2=>∃x H',Inv X pins σ H' s2∧RelV x u∧J.yld i H x H'∧tn (i+1) s2.heap∧∀b∈fp,H' b=none) E s1) E s
 done:∀(X:Cx),X.prog=P→X.w=w→X.K=K→X.calm=true→∀(i:Nat) (pins:List (Addr×Obj)) (s:Shared) (σ:St) (H:Hp) (E:Value→Shared→Prop),Inv X pins σ H s→(∀b∈fp,lO X pins H b)→tn i s.heap→J.stop i H →
  wpAny (model P w) X.A (pyNext (.ref it)) (λr s1=>r=none∧Inv X pins σ H s1) E s
 self:∀(A:Around) (i:Nat) (s:Shared) (Q:Value→Shared→Prop) (E:Value→Shared→Prop),tn i s.heap→Q (.ref it) s→wpAny (model P w) A (pyIter (.ref it)) Q E s
noncomputable abbrev TI := St → Hp → (It → Hp → Prop) → Prop
def PIE(X:Cx)(pins:List (Addr×Obj))(σ:St)(tg:Expr)(R:It→Hp→Prop)(itv:Value)(s2:Shared):Prop :=
 ∃(it:Addr) (fp:List Addr) (tn:Nat→Heap→Prop) (J:It) (H':Hp),itv = .ref it∧Inv X pins σ H' s2∧Turn X.prog X.w X.K tg J fp it tn∧tn 0 s2.heap∧(∀b∈fp,lO X pins H' b)∧R J H'
def PI(X:Cx)(tg iter:Expr)(wi:TI):Prop :=
 ∀(pins:List (Addr×Obj)) (s:Shared) (σ:St) (H:Hp) (R:It→Hp→Prop),Inv X pins σ H s→wi σ H R →
  wpAny (model X.prog X.w) X.A (eval iter X.env) (λv s1=>wpAny (model X.prog X.w) X.A (pyIter v) (PIE X pins σ tg R) X.xe s1) X.xe s
theorem EX {M : Model} {A : Around} {E : Value → Shared → Prop} {s : Shared} {tg : Expr} {it : Addr} {u : Value} {o : Obj} {n : String} {vs : Array Value} {Q : Unit → Shared → Prop} (ho : s.heap.get? it = some o) (hc : o.cls = .type n) (hd : o.data = .fields vs)
    (hn : ["enumerate", "zip", "dict_itemiterator", "dict_reverseitemiterator", "odict_iterator", "itertools.zip_longest", "itertools.pairwise"].contains n = false) (hQ : Q () s) : wpAny M A (letOwnedTupleGo tg (.ref it) u) Q E s := by
  unfold letOwnedTupleGo
  cases tg <;> first
    | exact wpAny_pure hQ
    | (cases u <;> first
        | exact wpAny_pure hQ
        | (refine wpAny_bind (wpAny_load ho ?_)
           rw [hc, hd]
           show wpAny M A (if (["enumerate", "zip", "dict_itemiterator", "dict_reverseitemiterator", "odict_iterator", "itertools.zip_longest", "itertools.pairwise"].contains n && vs[0]? == some (rawInt _)) = true then _ else _) Q E s
           rw [if_neg (by intro h; rw [hn, Bool.false_and] at h; cases h)]
           exact wpAny_pure hQ))
def Itl(K:PySem.W.Frag)(a:Addr):It :=
 ⟨λi H=>∃xs x,SqL K H a xs∧xs[i]?=some x,λi H x H'=>H'=H∧∀xs,SqL K H a xs→xs[i]?=some x,λi H=>∃xs,SqL K H a xs∧xs.length≤i⟩
def Itt(K:PySem.W.Frag)(a:Addr):It :=
 ⟨λi H=>∃xs x,SqT K H a xs∧xs[i]?=some x,λi H x H'=>H'=H∧∀xs,SqT K H a xs→xs[i]?=some x,λi H=>∃xs,SqT K H a xs∧xs.length≤i⟩
def Itr(lo:Int)(n:Nat):It:=⟨λi _=>i<n,λi H x H'=>H'=H∧x = .int (lo+i),λi _=>n≤i⟩
theorem C5{P:Program}{w:World}{K:PySem.W.Frag}{tg:Expr}(a it:Addr):Turn P w K tg (Itl K a) [it] it (λi h=>h.IsListIter it a i) where
 mem:=by simp
 obj:=λi h st b hb=>by
  have e:b=it:=by simpa using hb
  subst e
  obtain⟨o,e,c,d⟩:=st
  exact⟨o,e,λv z=>by rw[d] at z;cases z⟩
 keep:=λi h h' st k=>st.at λo e=>k it (by simp) o e
 item:=by
  intro X hP hw hK hc i pins s σ H E I hf st hg
  subst hP hw hK
  obtain⟨xs,x,hq,hx⟩:=hg
  obtain⟨its,rv,p,hz⟩:=I.list hq
  obtain⟨u,hu,ru⟩:=rv.get hx
  obtain⟨f0,f1,f2,f3,f4,f5⟩:=hf it (by simp)
  refine wpAny_pyNext_list_item st p.isList (x:=u) (by simpa using hu) λh' st' sb=>?_
  have I1:Inv X pins σ H { s with heap:=h' }:=I.turned (t':=s.toks) (λb o hb e=>(sb.2 b hb).trans e) f0 f1 f3 f4 f5
  obtain⟨o,e,c,d⟩:=id st'
  exact⟨u,rfl,EX (s:={ s with heap:=h' }) e c d (by decide) ⟨x,H,I1,ru,⟨rfl,λys hy=>by rw[I.yE hy hq];exact hx⟩,st',λb hb=>(hf b hb).1⟩⟩
 done:=by
  intro X hP hw hK hc i pins s σ H E I hf st hg
  subst hP hw hK
  obtain⟨xs,hq,hx⟩:=hg
  obtain⟨its,rv,p,hz⟩:=I.list hq
  obtain⟨f0,f1,f2,f3,f4,f5⟩:=hf it (by simp)
  have hl:=rv.length
  exact wpAny_pyNext_list_end (I.ok.hd hc) st p.isList (by simp;lia) λh' eb=>⟨rfl,I.turned (t':=s.toks) (λb o hb e=>eb b o hb e) f0 f1 f3 f4 f5⟩
 self:=λ_ _ _ _ _ st h=>wpAny_pyIter_listiter st h
theorem An{P:Program}{w:World}{K:PySem.W.Frag}{tg:Expr}(a it:Addr):Turn P w K tg (Itt K a) [it] it (λi h=>h.IsTupleIter it a i) where
 mem:=by simp
 obj:=λi h st b hb=>by
  have e:b=it:=by simpa using hb
  subst e
  obtain⟨o,e,c,d⟩:=st
  exact⟨o,e,λv z=>by rw[d] at z;cases z⟩
 keep:=λi h h' st k=>st.at λo e=>k it (by simp) o e
 item:=by
  intro X hP hw hK hc i pins s σ H E I hf st hg
  subst hP hw hK
  obtain⟨xs,x,hq,hx⟩:=hg
  obtain⟨its,rv,p,hz⟩:=I.tuple hq
  obtain⟨u,hu,ru⟩:=rv.get hx
  obtain⟨f0,f1,f2,f3,f4,f5⟩:=hf it (by simp)
  refine wpAny_pyNext_tuple_item st (show s.heap.IsTuple a its.toArray from p) (x:=u) (by simpa using hu) λh' st' sb=>?_
  have I1:Inv X pins σ H { s with heap:=h' }:=I.turned (t':=s.toks) (λb o hb e=>(sb.2 b hb).trans e) f0 f1 f3 f4 f5
  obtain⟨o,e,c,d⟩:=id st'
  exact⟨u,rfl,EX (s:={ s with heap:=h' }) e c d (by decide) ⟨x,H,I1,ru,⟨rfl,λys hy=>by rw[I.vR hy hq];exact hx⟩,st',λb hb=>(hf b hb).1⟩⟩
 done:=by
  intro X hP hw hK hc i pins s σ H E I hf st hg
  subst hP hw hK
  obtain⟨xs,hq,hx⟩:=hg
  obtain⟨its,rv,p,hz⟩:=I.tuple hq
  obtain⟨f0,f1,f2,f3,f4,f5⟩:=hf it (by simp)
  have hl:=rv.length
  exact wpAny_pyNext_tuple_end (I.ok.hd hc) st (show s.heap.IsTuple a its.toArray from p) (by simp;lia) λh' eb=>⟨rfl,I.turned (t':=s.toks) (λb o hb e=>eb b o hb e) f0 f1 f3 f4 f5⟩
 self:=λ_ _ _ _ _ st h=>wpAny_pyIter_tupleiter st h
theorem Ao{P:Program}{w:World}{K:PySem.W.Frag}{tg:Expr}(it:Addr)(lo:Int)(n:Nat):Turn P w K tg (Itr lo n) [it] it (λi h=>IsRangeIter h it (lo+(i:Nat)*1) ((n:Int)-(i:Nat)) 1) where
 mem:=by simp
 obj:=λi h st b hb=>by
  have e:b=it:=by simpa using hb
  subst e
  exact⟨_,st,λv z=>by
   have z':Data.fields _=Data.cell v:=z
   cases z'⟩
 keep:=λi h h' st k=>k it (by simp) _ st
 item:=by
  intro X hP hw hK hc i pins s σ H E I hf st hg
  subst hP hw hK
  obtain⟨f0,f1,f2,f3,f4,f5⟩:=hf it (by simp)
  have W:=Walks.range (prog:=X.prog) (w:=X.w) (I.ok.hd hc) it lo 1 n
  refine W.item i s _ _ hg st λv h' tk hv st' kk=>?_
  obtain⟨t,rfl⟩:=hv
  have I1:Inv X pins σ H { s with heap:=h',toks:=tk }:=I.turned (λb o hb e=>kk b o (by simpa using hb) e) f0 f1 f3 f4 f5
  refine⟨_,rfl,EX (s:={ s with heap:=h',toks:=tk }) (n:="range_iterator") st' rfl rfl (by decide) ⟨.int (lo+i),H,I1,⟨t,?_⟩,⟨rfl,rfl⟩,st',λb hb=>(hf b hb).1⟩⟩
  rw[Int.mul_one]
 done:=by
  intro X hP hw hK hc i pins s σ H E I hf st hg
  subst hP hw hK
  obtain⟨f0,f1,f2,f3,f4,f5⟩:=hf it (by simp)
  exact wpAny_pyNext_range_end (I.ok.hd hc) st (by have:n≤i:=hg;lia) λh' eb=>⟨rfl,I.turned (t':=s.toks) (λb o hb e=>eb b o hb e) f0 f1 f3 f4 f5⟩
 self:=λ_ _ _ _ _ st h=>wpAny_pyIter_rangeiter st h
section
variable{X:Cx}{tg:Expr}
theorem EY{pins:List (Addr×Obj)}{σ:St}{H:Hp}{s:Shared}{R:It→Hp→Prop}{E:Value→Shared→Prop}{lo hi:Int}{t u v:Tok}{tk:Nat}(I:Inv X pins σ H s)(h1:-(2 ^ 62)≤lo)(h2:lo<2 ^ 62)(h3:-(2 ^ 62)≤hi)(h4:hi<2 ^ 62)
  (q:R (Itr lo (hi-lo).toNat) H):wpAny (model X.prog X.w) X.A (pyIter (.ref s.heap.objs.size)) (PIE X pins σ tg R) E { s with heap:=s.heap.push { cls:=.type "range",data:=.fields #[.int lo t,.int hi u,.int 1 v] },toks:=tk }:=by
 refine wpAny_pyIter_range (IsRange.new ..) (small_one h1 h2 h3 h4) ?_
 have I1:Inv X pins σ H { s with heap:=s.heap.push { cls:=.type "range",data:=.fields #[.int lo t,.int hi u,.int 1 v] },toks:=tk }:=I.kept λb o e=>Heap.get?_push_of_some _ e
 refine⟨(s.heap.push { cls:=.type "range",data:=.fields #[.int lo t,.int hi u,.int 1 v] }).objs.size,[(s.heap.push { cls:=.type "range",data:=.fields #[.int lo t,.int hi u,.int 1 v] }).objs.size],_,_,H,rfl,
  I1.kept (t':=tk) λb o e=>Heap.get?_push_of_some _ e,Ao _ lo (hi-lo).toNat,?_,λb hb=>?_,q⟩
 ·have e1:lo+((0:Nat):Int)*1=lo:=by simp
  have e2:(((hi-lo).toNat:Nat):Int)-((0:Nat):Int)=Builtin.Range.rangeSize lo hi 1:=by rw[rangeSize_one];split<;>lia
  show IsRangeIter _ _ (lo+((0:Nat):Int)*1) ((((hi-lo).toNat:Nat):Int)-((0:Nat):Int)) 1
  rw[e1,e2]
  exact Heap.get?_push_size _ rfl
 ·have e:b=(s.heap.push { cls:=.type "range",data:=.fields #[.int lo t,.int hi u,.int 1 v] }).objs.size:=by simpa using hb
  subst e
  exact I1.yG (Nat.le_refl _) (I1.hok.fresh (Nat.le_refl _))
def NZ(ta:TA):TI:=λσ H R=>ta σ H λvs H1=>∃j:Int,vs=[.int j] ∧ -(2 ^ 62)≤j∧j<2 ^ 62∧R (Itr 0 j.toNat) H1
theorem C6{a:Expr}{ta:TA}{p pos:Pos}(hg:Gl X "range")(hm:X.mg "range"=none)(ha:PA X [a] ta)(hs:starEach [a] X.env=[(false,eval a X.env)]:=by rfl):PI X tg (.Call (.Name "range" p) [a] [] pos) (NZ ta):=by
 intro pins s σ H R I h
 refine Call_ (oi I hg hm boot_range (PyProof.Rows.callWith_type1 (thn (ha pos pins s σ H _ I h) λus s1 ax=>?_) hs rfl))
 obtain⟨vs,H1,I1,r1,q1⟩:=ax
 obtain⟨j,e,q1,q2,q⟩:=q1
 subst e
 cases r1 with
 | cons r rr =>
  cases rr
  obtain⟨t,rfl⟩:=r
  exact call_range_1 (EY I1 (by lia) (by lia) q1 q2 (by simpa using q))
def QK(wi:TI)(g:TG)(tb:TS):TS:=λD σ H=>wi σ H λJ H1=>∃W:Nat→Nat→St→Hp→Prop,(∃m,W 0 m σ H1)∧∀i m σ H,W i m σ H →
 (J.stop i H∧D.nx σ H)∨(J.go i H∧∃N:St→Hp→Prop,(∀σ' H',N σ' H'→∃m',m'<m∧W (i+1) m' σ' H')∧∀x H',J.yld i H x H'→g x σ H' λσ2 H2=>tb { D with nx:=N,ct:=N,bk:=D.nx } σ2 H2)
def sS(fp:List Addr)(h:Heap):List (Addr×Obj):=fp.filterMap λb=>(h.get? b).map λo=>(b,o)
theorem kI{fp:List Addr}{h:Heap}{b:Addr}{o:Obj}(hb:b∈fp)(e:h.get? b=some o):(b,o)∈sS fp h:=List.mem_filterMap.mpr ⟨b,hb,by rw[e];rfl⟩
theorem C7{fp:List Addr}{h:Heap}{p:Addr×Obj}(hp:p∈sS fp h):p.1∈fp∧h.get? p.1=some p.2:=by
 obtain⟨b,hb,e⟩:=List.mem_filterMap.mp hp
 cases q:h.get? b with
 | none=>rw[q] at e;cases e
 | some o =>
  rw[q] at e
  have e':(b,o)=p:=Option.some.inj e
  subst e'
  exact⟨hb,q⟩
theorem Inv.pinned{pins:List (Addr×Obj)}{σ:St}{H:Hp}{s:Shared}{fp:List Addr}(I:Inv X pins σ H s)(hf:∀b∈fp,lO X pins H b)(ho:∀b∈fp,∃o,s.heap.get? b=some o∧∀v,o.data ≠ .cell v):Inv X (pins++sS fp s.heap) σ H s :=
 I.BG λp hp=>(List.mem_append.mp hp).elim (λz=>I.pin p (List.mem_append_right _ z)) λz=>by
  obtain⟨hb,e⟩:=C7 z
  obtain⟨f0,f1,f2,_⟩:=hf p.1 hb
  obtain⟨o,e',d⟩:=ho p.1 hb
  rw[e] at e';cases e'
  exact⟨e,f0,f1,f2,d⟩
theorem Inv.pq{pins pl:List (Addr×Obj)}{σ:St}{H:Hp}{s:Shared}(I:Inv X (pins++pl) σ H s):Inv X pins σ H s:=I.BG λp hp=>I.pin p (List.mem_append_right _ (List.mem_append_left _ hp))
theorem Li{iter:Expr}{body:List Stmt}{wi:TI}{g:TG}{tb:TS}{pos:Pos}(hp:PassesOwn (model X.prog X.w) X.A X.env X.xe)(hc:X.calm=true)(hi:PI X tg iter wi)(hg:PG X tg g)(hb:PSs X body tb)
  (hs:∀x,foldedSetIterable iter X.env x=pure x:=by intro _;rfl):PS X (.For tg iter body [] pos) (QK wi g tb):=by
 intro pins s σ H D I h
 refine wpAny_For (thn (hi pins s σ H _ I h) λv s1 h1=>thn h1 λitv s2 h2=>?_) hs
 obtain⟨it,fp,tn,J,H2,e,I2,T,st2,f2,W,⟨m0,w0⟩,turn⟩:=h2
 subst e
 have Ap:∀{H':Hp},(∀b∈fp,H' b=none)→∀b∈fp,lO X pins H' b:=λhn b hb=>⟨hn b hb,(f2 b hb).2⟩
 refine codeAny_forLoop_any (λn s'=>∃i σ' H',Inv X pins σ' H' s'∧tn i s'.heap∧(∀b∈fp,H' b=none)∧W i n σ' H') ?_ m0 ⟨0,σ,H2,I2,st2,λb hb=>(f2 b hb).1,w0⟩
 rintro n s3 ⟨i,σ3,H3,I3,st3,fr3,w3⟩
 rcases turn i n σ3 H3 w3 with ⟨stop,qn⟩|⟨go,N,hN,step⟩
 ·refine wpAny_passesOwn hp (thn (T.done X rfl rfl rfl hc i pins s3 σ3 H3 X.xe I3 (Ap fr3) st3 stop) λr s4 ⟨hr,I4⟩=>?_)
  subst hr
  exact wpAny_execs_nil ⟨σ3,H3,I4,qn⟩
 ·refine wpAny_passesOwn hp (thn (T.item X rfl rfl rfl hc i pins s3 σ3 H3 X.xe I3 (Ap fr3) st3 go) λr s4 ⟨u,hr,h4⟩=>?_)
  subst hr
  refine wpAny_passesOwn hp (thn h4 λ_ s5 ax=>?_)
  obtain⟨x,H5,I5,r5,y5,st5,fr5⟩:=ax
  have I5':=I5.pinned (Ap fr5) (T.obj _ _ st5)
  refine wpAny_passesOwn hp (thn (hg _ s5 σ3 H5 x u _ I5' r5 (step x H5 y5)) λ_ s6 eA=>?_)
  obtain⟨σ6,H6,I6,q6⟩:=eA
  refine wpAny_passesOwn hp (thn (hb _ s6 σ6 H6 _ I6 q6) λf s7 q7=>?_)
  have again:∀{σ7:St}{H7:Hp},Inv X (pins++sS fp s5.heap) σ7 H7 s7→N σ7 H7→∃m,m<n∧∃i σ' H',Inv X pins σ' H' s7∧tn i s7.heap∧(∀b∈fp,H' b=none)∧W i m σ' H':=λ{σ7 H7} I7 n7=>by
   obtain⟨m',hm,w7⟩:=hN σ7 H7 n7
   refine⟨m',hm,i+1,σ7,H7,I7.pq,T.keep _ _ _ st5 λb hb o e=>(I7.pin (b,o) (List.mem_append_right _ (List.mem_append_right _ (kI hb e)))).1,λb hb=>?_,w7⟩
   obtain⟨o,e,d⟩:=T.obj _ _ st5 b hb
   exact (I7.pin (b,o) (List.mem_append_right _ (List.mem_append_right _ (kI hb e)))).2.1
  cases f with
  | next=>obtain⟨σ7,H7,I7,n7⟩:=q7;exact again I7 n7
  | cont=>obtain⟨σ7,H7,I7,n7⟩:=q7;exact again I7 n7
  | brk=>obtain⟨σ7,H7,I7,q7⟩:=q7;exact⟨σ7,H7,I7.pq,q7⟩
  | ret v=>obtain⟨x7,σ7,H7,I7,r7,q7⟩:=q7;exact⟨x7,σ7,H7,I7.pq,r7,q7⟩
end
noncomputable abbrev R2 := V → V → Hp → VK → Prop
def OpR(X:Cx)(f:Value→Value→Sem Value)(r:R2):Prop :=
 ∀(pins:List (Addr×Obj)) (s:Shared) (σ:St) (H:Hp) (x y:V) (v u:Value) (Q:VK),Inv X pins σ H s→RelV x v→RelV y u→r x y H Q →
  wpAny (model X.prog X.w) X.A (f v u) (EP X pins σ Q) X.xe s
def UnR(X:Cx)(f:Value→Sem Value)(r:V→Hp→VK→Prop):Prop :=
 ∀(pins:List (Addr×Obj)) (s:Shared) (σ:St) (H:Hp) (x:V) (v:Value) (Q:VK),Inv X pins σ H s→RelV x v→r x H Q →
  wpAny (model X.prog X.w) X.A (f v) (EP X pins σ Q) X.xe s
def fL(X:Cx)(f:Value)(r:List V→Hp→VK→Prop):Prop :=
 ∀(pins:List (Addr×Obj)) (s:Shared) (σ:St) (H:Hp) (xs:List V) (us:List Value) (Q:VK),Inv X pins σ H s→Vals xs us→r xs H Q →
  wpAny (model X.prog X.w) X.A (call f us) (EP X pins σ Q) X.xe s
def tOp(r:R2)(ta tb:TE):TE:=λσ H Q=>ta σ H λx H1=>tb σ H1 λy H2=>r x y H2 Q
def tUn(r:V→Hp→VK→Prop)(ta:TE):TE:=λσ H Q=>ta σ H λx H1=>r x H1 Q
def rI(C:Int→Int→Prop)(g:Int→Int→V):R2:=λx y H Q=>∃i j,x = .int i∧y = .int j∧C i j∧Q (g i j) H
def rI0(g:Int→Int→V):R2:=λx y H Q=>∃i j,x = .int i∧y = .int j∧Q (g i j) H
def rU(g:Int→V):V→Hp→VK→Prop:=λx H Q=>∃i,x = .int i∧Q (g i) H
section
variable{X:Cx}{a b c:Expr}{ta tb tc:TE}{pos:Pos}
theorem Lj(ha:PE X a ta)(hb:PE X b tb){pins:List (Addr×Obj)}{s:Shared}{σ:St}{H:Hp}{R:V→V→Hp→Prop}(I:Inv X pins σ H s)
  (h:ta σ H λx H1=>tb σ H1 λy H2=>R x y H2) {Q:Value→Shared→Prop}{f:Value→Value→Sem Value}
  (hf:∀v u s2 x y H2,Inv X pins σ H2 s2→RelV x v→RelV y u→R x y H2→wpAny (model X.prog X.w) X.A (f v u) Q X.xe s2) :
  wpAny (model X.prog X.w) X.A (eval a X.env) (λv s₁=>wpAny (model X.prog X.w) X.A (eval b X.env) (λu s₂=>wpAny (model X.prog X.w) X.A (f v u) Q X.xe s₂) X.xe s₁) X.xe s:=by
 refine thn (ha pins s σ H _ I h) λv s1 ax=>?_
 obtain⟨x,H1,I1,r1,q1⟩:=ax
 refine thn (hb pins s1 σ H1 _ I1 q1) λu s2 eA=>?_
 obtain⟨y,H2,I2,r2,q2⟩:=eA
 exact hf v u s2 x y H2 I2 r1 r2 q2
theorem Kh{op:Operator}{r:R2}(ho:OpR X (binaryOp op) r)(ha:PE X a ta)(hb:PE X b tb):PE X (.BinOp a op b pos) (tOp r ta tb):=by
 intro pins s σ H Q I h
 exact wpAny_BinOp (Lj ha hb I h λv u s2 x y H2 I2 rx ry q=>ho pins s2 σ H2 x y v u Q I2 rx ry q)
theorem N0{op:UnaryOp}{r:V→Hp→VK→Prop}(ho:UnR X (unaryOp op) r)(ha:PE X a ta):PE X (.UnaryOp op a pos) (tUn r ta):=by
 intro pins s σ H Q I h
 exact UnaryOp_ (thn (ha pins s σ H _ I h) λv s1 ⟨x,H1,I1,r1,q1⟩=>ho pins s1 σ H1 x v Q I1 r1 q1)
theorem opI{f:Value→Value→Sem Value}{C:Int→Int→Prop}{g:Int→Int→Int}
  (rule:∀(i j:Int) (t u:Tok) (s:Shared) (Q:Value→Shared→Prop) (E:Value→Shared→Prop),C i j→Q (.int (g i j) s.toks) { s with toks:=s.toks+1 }→wpAny (model X.prog X.w) X.A (f (.int i t) (.int j u)) Q E s) :
  OpR X f (rI C λi j => .int (g i j)):=by
 intro pins s σ H x y v u Q I rx ry h
 obtain⟨i,j,rfl,rfl,hc,q⟩:=h
 obtain⟨t,rfl⟩:=rx
 obtain⟨t',rfl⟩:=ry
 exact rule i j t t' s _ _ hc ⟨.int (g i j),H,I.tok _,⟨_,rfl⟩,q⟩
theorem Lk{f:Value→Value→Sem Value}{g:Int→Int→Int}
  (rule:∀(i j:Int) (t u:Tok) (s:Shared) (Q:Value→Shared→Prop) (E:Value→Shared→Prop),Q (.int (g i j) s.toks) { s with toks:=s.toks+1 }→wpAny (model X.prog X.w) X.A (f (.int i t) (.int j u)) Q E s) :
  OpR X f (rI0 λi j => .int (g i j)):=by
 intro pins s σ H x y v u Q I rx ry h
 obtain⟨i,j,rfl,rfl,q⟩:=h
 obtain⟨t,rfl⟩:=rx
 obtain⟨t',rfl⟩:=ry
 exact rule i j t t' s _ _ ⟨.int (g i j),H,I.tok _,⟨_,rfl⟩,q⟩
theorem Ll{f:Value→Value→Sem Value}{g:Int→Int→Bool}
  (rule:∀(i j:Int) (t u:Tok) (s:Shared) (Q:Value→Shared→Prop) (E:Value→Shared→Prop),Q (.bool (g i j)) s→wpAny (model X.prog X.w) X.A (f (.int i t) (.int j u)) Q E s) :
  OpR X f (rI0 λi j => .bl (g i j)):=by
 intro pins s σ H x y v u Q I rx ry h
 obtain⟨i,j,rfl,rfl,q⟩:=h
 obtain⟨t,rfl⟩:=rx
 obtain⟨t',rfl⟩:=ry
 exact rule i j t t' s _ _ ⟨.bl (g i j),H,I,rfl,q⟩
def Lm(i j:Int):Prop:=0<j∧j<1073741824
def Ln(i j:Int):Prop:=0≤j∧j≤1000000∧i.natAbs<2 ^ 64
def EZ(i j:Int):Prop:=(-(2 ^ 64)<i∧i<2 ^ 64)∨(-(2 ^ 64)<j∧j<2 ^ 64)
theorem EZ.ok{i j:Int}(h:EZ i j):IntMulOk i j:=by
 rcases h with ⟨h1,h2⟩|⟨h1,h2⟩
 ·exact .of_left (intBits_le_64 h1 h2)
 ·exact .of_right (intBits_le_64 h1 h2)
theorem Aq(k:Nat):(0:Int)≤2 ^ k:=by
 rw[two_pow_cast]
 exact Int.natCast_nonneg _
theorem Lo:OpR X (binaryOp .Add) (rI0 λi j => .int (i+j)):=Lk λ_ _ _ _ _ _ _ q=>add_int q
theorem Lp:OpR X (binaryOp .Sub) (rI0 λi j => .int (i-j)):=Lk λ_ _ _ _ _ _ _ q=>sub_int q
theorem Lq:OpR X (binaryOp .Mult) (rI EZ λi j => .int (i*j)):=opI λ_ _ _ _ _ _ _ hc q=>mul_int q hc.ok
theorem H_:OpR X (binaryOp .FloorDiv) (rI Lm λi j => .int (i / j)):=opI λi j _ _ _ _ _ hc q=>by
 have h1:(0:Int)<j:=hc.1
 have h2:j<1073741824:=hc.2
 exact floordiv_int (by lia) (by rw[Int.fdiv_eq_ediv_of_nonneg i (by lia)];exact q) (.inl (PyProof.noPylong_small (by lia)))
theorem Lr:OpR X (binaryOp .Mod) (rI (λ_ j=>0<j) λi j => .int (i%j)):=opI λi j _ _ _ _ _ hc q=>by
 have h1:(0:Int)<j:=hc
 exact mod_int' (by lia) (by rw[Int.fmod_eq_emod_of_nonneg i (by lia)];exact q)
theorem Ls:OpR X (binaryOp .Pow) (rI Ln λi j => .int (i ^ j.toNat)):=opI λ_ _ _ _ _ _ _ hc q=>pow_int_small hc.1 hc.2.1 hc.2.2 q
theorem Lu:OpR X (binaryOp .RShift) (rI (λ_ j=>0≤j) λi j => .int (i / 2 ^ j.toNat)):=opI λi j _ _ _ _ _ hc q =>
 rshift_int hc (by rw[Int.fdiv_eq_ediv_of_nonneg i (Aq _)];exact q)
theorem Lv:OpR X (binaryOp .BitAnd) (rI0 λi j => .int (Builtin.bitAnd i j)):=Lk λ_ _ _ _ _ _ _ q=>and_int q
theorem unI{f:Value→Sem Value}{g:Int→Int}
  (rule:∀(i:Int) (t:Tok) (s:Shared) (Q:Value→Shared→Prop) (E:Value→Shared→Prop),Q (.int (g i) s.toks) { s with toks:=s.toks+1 }→wpAny (model X.prog X.w) X.A (f (.int i t)) Q E s) :
  UnR X f (rU λi => .int (g i)):=by
 intro pins s σ H x v Q I rx h
 obtain⟨i,rfl,q⟩:=h
 obtain⟨t,rfl⟩:=rx
 exact rule i t s _ _ ⟨.int (g i),H,I.tok _,⟨_,rfl⟩,q⟩
theorem Lw:UnR X (unaryOp .USub) (rU λi => .int (-i)):=unI λ_ _ _ _ _ q=>neg_int q
end
def N1:V→V→Bool
 | .non,.non=>true | .non,.int _=>true | .int _,.non=>true | .non,.bl _=>true | .bl _,.non=>true | .non,.str _=>true | .str _,.non=>true
 | .int _,.int _=>true | .bl _,.bl _=>true | .str _,.str _=>true | .byt _,.byt _=>true
 | .int _,.str _=>true | .str _,.int _=>true | .bl _,.str _=>true | .str _,.bl _=>true
 | _,_=>false
def rEq:R2:=λx y H Q=>N1 x y=true∧Q (.bl (decide (x=y))) H
def rNe:R2:=λx y H Q=>N1 x y=true∧Q (.bl (!decide (x=y))) H
theorem BL{i j:Int}:decide (V.int i=V.int j)=(i==j):=by
 rw[Bool.eq_iff_iff]
 simp
theorem E1{i j:Bool}:decide (V.bl i=V.bl j)=(i==j):=by
 rw[Bool.eq_iff_iff]
 simp
theorem sx{i j:Str}:decide (V.str i=V.str j)=(i==j):=by
 rw[Bool.eq_iff_iff]
 simp
theorem BM{i j:Array UInt8}:decide (V.byt i=V.byt j)=(i.toList==j.toList):=by
 rw[Bool.eq_iff_iff]
 cases i
 cases j
 simp
section
variable{X:Cx}{a b c:Expr}{ta tb tc:TE}{pos:Pos}
theorem bV{pins:List (Addr×Obj)}{σ:St}{H:Hp}{s:Shared}{Q:VK}{k k':Bool}(I:Inv X pins σ H s)(q:Q (.bl k) H)(e:k=k'):EP X pins σ Q (.bool k') s:=by
 subst e
 exact⟨.bl k,H,I,rfl,q⟩
theorem Ki:OpR X (compareOp .Eq) rEq:=by
 intro pins s σ H x y v u Q I rx ry h
 obtain⟨hs,q⟩:=h
 cases x with
 | non =>
  cases rx
  cases y with
  | non=>cases ry;exact PySem.EqNone.eq_none_none (bV I q (by simp))
  | bl j=>cases ry;exact PySem.EqNone.eq_none_bool (bV I q (by simp))
  | int j=>obtain⟨t',rfl⟩:=ry;exact PySem.EqNone.eq_none_int (bV I q (by simp))
  | str j=>obtain⟨t',rfl⟩:=ry;exact PySem.EqNone.eq_none_str (bV I q (by simp))
  | _=>exact absurd (show false=true from hs) Bool.false_ne_true
 | bl i =>
  cases rx
  cases y with
  | non=>cases ry;exact PySem.EqNone.eq_bool_none (bV I q (by simp))
  | bl j=>cases ry;exact eq_bool (bV I q E1)
  | str j=>obtain⟨t',rfl⟩:=ry;exact PySem.EqMixed.eq_bool_str (bV I q (by simp))
  | _=>exact absurd (show false=true from hs) Bool.false_ne_true
 | int i =>
  obtain⟨t,rfl⟩:=rx
  cases y with
  | non=>cases ry;exact PySem.EqNone.eq_int_none (bV I q (by simp))
  | int j=>obtain⟨t',rfl⟩:=ry;exact eq_int (bV I q BL)
  | str j=>obtain⟨t',rfl⟩:=ry;exact PySem.EqMixed.eq_int_str (bV I q (by simp))
  | _=>exact absurd (show false=true from hs) Bool.false_ne_true
 | str i =>
  obtain⟨t,rfl⟩:=rx
  cases y with
  | non=>cases ry;exact PySem.EqNone.eq_str_none (bV I q (by simp))
  | bl j=>cases ry;exact PySem.EqMixed.eq_str_bool (bV I q (by simp))
  | int j=>obtain⟨t',rfl⟩:=ry;exact PySem.EqMixed.eq_str_int (bV I q (by simp))
  | str j=>obtain⟨t',rfl⟩:=ry;exact eq_str (bV I q sx)
  | _=>exact absurd (show false=true from hs) Bool.false_ne_true
 | byt i =>
  obtain⟨t,rfl⟩:=rx
  cases y with
  | byt j=>obtain⟨t',rfl⟩:=ry;exact PySem.W.eq_bytes (bV I q BM)
  | _=>exact absurd (show false=true from hs) Bool.false_ne_true
 | _=>cases y<;>exact absurd (show false=true from hs) Bool.false_ne_true
theorem N3:OpR X (compareOp .NotEq) rNe:=by
 intro pins s σ H x y v u Q I rx ry h
 obtain⟨hs,q⟩:=h
 cases x with
 | non =>
  cases rx
  cases y with
  | non=>cases ry;exact PySem.EqNone.ne_none_none (bV I q (by simp))
  | bl j=>cases ry;exact PySem.EqNone.ne_none_bool (bV I q (by simp))
  | int j=>obtain⟨t',rfl⟩:=ry;exact PySem.EqNone.ne_none_int (bV I q (by simp))
  | str j=>obtain⟨t',rfl⟩:=ry;exact PySem.EqNone.ne_none_str (bV I q (by simp))
  | _=>exact absurd (show false=true from hs) Bool.false_ne_true
 | bl i =>
  cases rx
  cases y with
  | non=>cases ry;exact PySem.EqNone.ne_bool_none (bV I q (by simp))
  | bl j=>cases ry;exact ne_bool (bV I q (congrArg not E1))
  | str j=>obtain⟨t',rfl⟩:=ry;exact PySem.EqMixed.ne_bool_str (bV I q (by simp))
  | _=>exact absurd (show false=true from hs) Bool.false_ne_true
 | int i =>
  obtain⟨t,rfl⟩:=rx
  cases y with
  | non=>cases ry;exact PySem.EqNone.ne_int_none (bV I q (by simp))
  | int j=>obtain⟨t',rfl⟩:=ry;exact ne_int (bV I q (congrArg not BL))
  | str j=>obtain⟨t',rfl⟩:=ry;exact PySem.EqMixed.ne_int_str (bV I q (by simp))
  | _=>exact absurd (show false=true from hs) Bool.false_ne_true
 | str i =>
  obtain⟨t,rfl⟩:=rx
  cases y with
  | non=>cases ry;exact PySem.EqNone.ne_str_none (bV I q (by simp))
  | bl j=>cases ry;exact PySem.EqMixed.ne_str_bool (bV I q (by simp))
  | int j=>obtain⟨t',rfl⟩:=ry;exact PySem.EqMixed.ne_str_int (bV I q (by simp))
  | str j=>obtain⟨t',rfl⟩:=ry;exact ne_str (bV I q (congrArg not sx))
  | _=>exact absurd (show false=true from hs) Bool.false_ne_true
 | byt i =>
  obtain⟨t,rfl⟩:=rx
  cases y with
  | byt j=>obtain⟨t',rfl⟩:=ry;exact PySem.W.ne_bytes (bV I q (congrArg not BM))
  | _=>exact absurd (show false=true from hs) Bool.false_ne_true
 | _=>cases y<;>exact absurd (show false=true from hs) Bool.false_ne_true
theorem Kj:OpR X (compareOp .Lt) (rI0 λi j => .bl (decide (i<j))):=Ll λ_ _ _ _ _ _ _ q=>lt_int q
theorem N4:OpR X (compareOp .LtE) (rI0 λi j => .bl (decide (i≤j))):=Ll λ_ _ _ _ _ _ _ q=>le_int q
theorem N5:OpR X (compareOp .Gt) (rI0 λi j => .bl (decide (j<i))):=Ll λ_ _ _ _ _ _ _ q=>gt_int q
theorem Lx:OpR X (compareOp .Is) (λx y H Q=>y = .non∧Q (.bl (decide (x = .non))) H):=by
 intro pins s σ H x y v u Q I rx ry h
 obtain⟨rfl,q⟩:=h
 cases ry
 refine is_none_gen (bV I q ?_)
 cases x<;>first
  | (cases rx;rfl)
  | (obtain⟨t,rfl⟩:=rx;rfl)
theorem OpR.or{f:Value→Value→Sem Value}{r r':R2}(h:OpR X f r)(h':OpR X f r'):OpR X f (λx y H Q=>r x y H Q∨r' x y H Q):=by
 intro pins s σ H x y v u Q I rx ry q
 rcases q with q|q
 ·exact h pins s σ H x y v u Q I rx ry q
 ·exact h' pins s σ H x y v u Q I rx ry q
theorem qh(b:Expr){op:CmpOp}(h:op ≠ .In:=by decide)(h2:op ≠ .NotIn:=by decide):behindInMarks op b=false:=by
 have e1:(op==CmpOp.In)=false:=by cases op<;>first|rfl|exact absurd rfl h
 have e2:(op==CmpOp.NotIn)=false:=by cases op<;>first|rfl|exact absurd rfl h2
 cases b<;>simp[behindInMarks,e1,e2]
theorem Ia{op:CmpOp}{r:R2}(ho:OpR X (compareOp op) r)(ha:PE X a ta)(hb:PE X b tb)(hm:behindInMarks op b=false):PE X (.Compare a [op] [b] pos) (tOp r ta tb):=by
 intro pins s σ H Q I h
 exact wpAny_Compare1 (Lj ha hb I h λv u s2 x y H2 I2 rx ry q=>ho pins s2 σ H2 x y v u Q I2 rx ry q) hm
def N6(t:TE):TT:=λσ H Q=>t σ H λx H'=>∃k,x = .bl k∧Q k H'
theorem Ib{op:CmpOp}{r:R2}(ho:OpR X (compareOp op) r)(ha:PE X a ta)(hb:PE X b tb)(hm:behindInMarks op b=false):PT X (.Compare a [op] [b] pos) (N6 (tOp r ta tb)):=by
 intro pins s σ H Q I h
 refine wpAny_isTrue_Compare1 (thn (ha pins s σ H _ I h) λv s1 ⟨x,H1,I1,r1,q1⟩=>thn (hb pins s1 σ H1 _ I1 q1) λu s2 ⟨y,H2,I2,r2,q2⟩ =>
  thn (ho pins s2 σ H2 x y v u _ I2 r1 r2 q2) λc s3 ⟨z,H3,I3,r3,k,e,q3⟩=>?_) hm
 subst e
 cases r3
 exact wpAny_truthy_bool ⟨H3,I3,q3⟩
def E3(r r':R2)(ta tb tc:TE):TE:=λσ H Q=>ta σ H λx H1=>tb σ H1 λy H2=>r x y H2 λz H3=>∃k,z = .bl k ∧
 (if k=true then tc σ H3 λw' H4=>r' y w' H4 Q else Q (.bl false) H3)
theorem E4{op op':CmpOp}{r r':R2}(ho:OpR X (compareOp op) r)(ho':OpR X (compareOp op') r')(ha:PE X a ta)(hb:PE X b tb)(hc:PE X c tc)
  (hm:lastMarks [op,op'] [b,c]=false:=by with_unfolding_all rfl):PE X (.Compare a [op,op'] [b,c] pos) (E3 r r' ta tb tc):=by
 intro pins s σ H Q I h
 refine Compare_chain (thn (ha pins s σ H _ I h) λv s1 ⟨x,H1,I1,r1,q1⟩=>chain_link (thn (hb pins s1 σ H1 _ I1 q1) λu s2 ⟨y,H2,I2,r2,q2⟩ =>
  thn (ho pins s2 σ H2 x y v u _ I2 r1 r2 q2) λd s3 ⟨z,H3,I3,r3,k,e,q3⟩=>?_)) hm
 subst e
 cases r3
 refine wpAny_truthy_bool ?_
 cases k with
 | false=>exact ite_ff ⟨.bl false,H3,I3,rfl,q3⟩
 | true=>exact ite_tt (chain_last (thn (hc pins s3 σ H3 _ I3 q3) λw' s4 ⟨z',H4,I4,r4,q4⟩=>ho' pins s4 σ H4 y z' u w' Q I4 r2 r4 q4))
theorem qi:(sizeLine:Nat)<2 ^ 63:=by rw[sizeLine_eq];decide
theorem Ar:OpR X (binaryOp .Add) (λx y H Q=>∃i j,x = .str i∧y = .str j∧i.length+j.length≤sizeLine∧Q (.str (i++j)) H):=by
 intro pins s σ H x y v u Q I rx ry h
 obtain⟨i,j,rfl,rfl,hz,q⟩:=h
 obtain⟨t,rfl⟩:=rx
 obtain⟨t',rfl⟩:=ry
 exact add_str (λt' tk=>⟨.str (i++j),H,I.tok _,⟨_,rfl⟩,q⟩) hz
theorem vals1{x:V}{us:List Value}(r:Vals [x] us):∃u,us=[u]∧RelV x u:=by
 cases r with
 | cons r1 r2=>cases r2;exact⟨_,rfl,r1⟩
theorem vals2{x y:V}{us:List Value}(r:Vals [x,y] us):∃u w',us=[u,w']∧RelV x u∧RelV y w':=by
 cases r with
 | cons r1 r2 =>
  cases r2 with
  | cons r3 r4=>cases r4;exact⟨_,_,rfl,r1,r3⟩
theorem C8:fL X (.type "int") (λxs H Q=>(∃i,xs=[.int i]∧Q (.int i) H)∨∃k,xs=[.bl k]∧Q (.int (if k then 1 else 0)) H):=by
 intro pins s σ H xs us Q I r h
 rcases h with ⟨i,rfl,q⟩|⟨k,rfl,q⟩
 ·obtain⟨u,rfl,t,rfl⟩:=vals1 r
  exact call_int_int ⟨.int i,H,I,⟨_,rfl⟩,q⟩
 ·obtain⟨u,rfl,r1⟩:=vals1 r
  cases r1
  exact call_int_bool ⟨.int (if k then 1 else 0),H,I.tok _,⟨_,rfl⟩,q⟩
end
theorem rR.some_of{v:V}{o:Option Value}(r:rR (some v) o):∃u,o=some u∧RelV v u:=by
 cases o with
 | none=>exact (show False from r).elim
 | some u=>exact⟨u,rfl,r⟩
structure eS(k:Nat)(A:Around):Prop where
 hd:A.handled=none
 dp:A.depth+3*k+5<recursionLimit
 un:A.units+16*k+200<cLine
theorem eS.mono{j k:Nat}{A:Around}(r:eS k A)(h:j≤k):eS j A:=⟨r.hd,by have:=r.dp;lia,by have:=r.un;lia⟩
theorem eS.deeper{k:Nat}{A:Around}(r:eS (k+1) A)(env:Env):eS k (A.deeper env) :=
 ⟨r.hd,by have:=r.dp;show A.depth+1+3*k+5<_;lia,by have:=r.un;show A.units+3+16*k+200<_;lia⟩
theorem eS.in1{k:Nat}{A:Around}(r:eS (k+1) A):eS k A.in1 :=
 ⟨r.hd,by have:=r.dp;show A.depth+3*k+5<_;lia,by have:=r.un;show A.units+1+16*k+200<_;lia⟩
theorem eS.depth{k:Nat}{A:Around}(r:eS k A):A.depth<recursionLimit:=by have:=r.dp;lia
theorem eS.units{k:Nat}{A:Around}(r:eS k A):A.units+64<cLine:=by have:=r.un;lia
def Ly:TA:=λ_ H Q=>Q [] H
def BN(ta:TE)(tr:TA):TA:=λσ H Q=>ta σ H λx H1=>tr σ H1 λxs H2=>Q (x::xs) H2
section
variable{X:Cx}{e:Expr}{es:List Expr}{te:TE}{t:TA}{pos:Pos}
theorem qj:PA X [] Ly:=λ_ _ _ _ H Q I h=>Calls.spliced_nil ⟨[],H,I,.nil,h⟩
theorem ia(ha:PE X e te)(hr:PA X es t)(hs:starEach (e::es) X.env=(false,eval e X.env)::starEach es X.env:=by rfl):PA X (e::es) (BN te t):=by
 intro pos pins s σ H Q I h
 rw[hs]
 show wpAny _ _ (spliced ((false,eval e X.env)::backTo pos (starEach es X.env))) _ _ s
 refine Calls.spliced_cons (thn (ha pins s σ H _ I h) λu s1 ax=>?_)
 obtain⟨x,H1,I1,r1,q1⟩:=ax
 exact thn (hr pos pins s1 σ H1 _ I1 q1) λus s2 ⟨xs,H2,I2,r2,q2⟩=>⟨x::xs,H2,I2,.cons r1 r2,q2⟩
def QL(t:TA):TE:=λσ H Q=>t σ H λxs H1=>xs.length≤sizeLine∧∀p,H1 p=none→Q (.ref p) (upd H1 p (.tup xs))
def QM(t:TA):TE:=λσ H Q=>t σ H λxs H1=>xs.length≤sizeLine∧∀p,H1 p=none→Q (.ref p) (upd H1 p (.lst xs))
theorem As{x1}(h:PA X es t):PE X (.Tuple es x1 pos) (QL t):=by
 intro pins s σ H Q I hq
 refine wpAny_Tuple_spliced (thn (h pos pins s σ H _ I hq) λus s1 ⟨xs,H1,I1,r,z,q⟩=>⟨by rw[← r.length];exact z,?_⟩)
 have hf:H1 s1.heap.objs.size=none:=I1.hok.fresh (Nat.le_refl _)
 refine⟨.ref s1.heap.objs.size,upd H1 s1.heap.objs.size (.tup xs),I1.laid (t':=s1.toks) (λb u e=>Heap.get?_push_of_some _ e) (Nat.le_refl _) ?_,rfl,q _ hf⟩
 exact⟨z,us,r,⟨_,Heap.get?_push_size _ rfl,rfl,_,rfl⟩⟩
theorem E5(h:PA X es t):PE X (.List es pos) (QM t):=by
 intro pins s σ H Q I hq
 refine wpAny_List_spliced (thn (h pos pins s σ H _ I hq) λus s1 ⟨xs,H1,I1,r,z,q⟩=>⟨by rw[← r.length];exact z,?_⟩)
 have hf:H1 s1.heap.objs.size=none:=I1.hok.fresh (Nat.le_refl _)
 refine⟨.ref s1.heap.objs.size,upd H1 s1.heap.objs.size (.lst xs),I1.laid (t':=s1.toks) (λb u e=>Heap.get?_push_of_some _ e) (Nat.le_refl _) ?_,rfl,q _ hf⟩
 exact⟨z,us,0,r,Heap.get?_push_size _ rfl⟩
end
noncomputable abbrev Sp := List V → Hp → VK → XK → Prop
noncomputable abbrev CXT := List Env → Hp → Shared → XK → Value → Shared → Prop
structure Au(P:Program)(w:World)(K:PySem.W.Frag)(mg:Str→Option Value)(base:Heap)(A:Around)(outer:List Env)(s:Shared)(H:Hp):Prop where
 frames:A.frames=some outer
 mod:Mod K mg base
 bs:∀b o,base.get? b=some o→s.heap.get? b=some o∧H b=none
 bsz:base.objs.size≤s.heap.objs.size
 oh:s.heap.FunFrames base outer
 frf:∀b∈frs outer,H b=none
 hok:HOk P w H s.heap
 bare:AllBare s.gens
def CE(outer:List Env)(P:Program)(w:World)(H:Hp)(s:Shared)(Q:VK)(u:Value)(s':Shared):Prop :=
 ∃v H',s'.os=s.os∧AllBare s'.gens∧Un (frs outer) [] H H' s.heap s'.heap∧HOk P w H' s'.heap∧RelV v u∧Q v H'
def CR(CX:CXT)(outer:List Env)(P:Program)(w:World)(H:Hp)(s:Shared)(Q:VK)(E:XK)(r:Result)(s':Shared):Prop :=
 match r with
 | .ok (.ret u)=>CE outer P w H s Q u s'
 | .ok _=>False
 | .error e=>CX outer H s E e s'
structure aP(P:Program)(w:World)(K:PySem.W.Frag)(mg:Str→Option Value)(base:Heap)(CX:CXT)(k:Nat)(f:Addr)(fd:FuncData)(ps:List Str)(sp:Sp):Prop where
 len:∀vs H Q E,sp vs H Q E→vs.length=ps.length
 run:∀(A:Around) (outer:List Env) (s:Shared) (H:Hp) (args:Args) (us:List Value) (vs:List V) (Q:VK) (E:XK),eS k A→Au P w K mg base A outer s H→BindsTo s fd args (ps.zip us)→Vals vs us→sp vs H Q E →
  codeAny (model P w) A (.call (.ref f) args) (CR CX outer P w H s Q E) s
theorem Au.in1{P:Program}{w:World}{K:PySem.W.Frag}{mg:Str→Option Value}{base:Heap}{A:Around}{outer:List Env}{s:Shared}{H:Hp}(e:Au P w K mg base A outer s H) :
  Au P w K mg base A.in1 outer s H:=⟨e.frames,e.mod,e.bs,e.bsz,e.oh,e.frf,e.hok,e.bare⟩
section
variable{X:Cx}{pins:List (Addr×Obj)}{σ:St}{H:Hp}{s s':Shared}
theorem Inv.Ic(I:Inv X pins σ H s):Au X.prog X.w X.K X.mg X.base X.A X.stack s H :=
 ⟨I.ok.frames,I.ok.mod,I.bs,Nat.le_trans I.ok.bsz I.sz,I.stack,I.su,I.hok,I.bare⟩
theorem Inv.after{Q:VK}{u:Value}(I:Inv X pins σ H s)(h:CE X.stack X.prog X.w H s Q u s'):EP X pins σ Q u s':=by
 obtain⟨v,H',os,bare,un,hok,r,q⟩:=h
 obtain⟨hh,g,d,t,os'⟩:=s'
 obtain rfl:os'=s.os:=os
 exact⟨v,H',I.call (h':=hh) (g':=g) (d':=d) (t':=t) (ch:=[]) un hok bare (λb z=>absurd z (by simp)),r,q⟩
end
def Kk(sp:Sp)(dvs:List V)(E:XK)(t:TA):TE:=λσ H Q=>t σ H λvs H1=>sp (vs++dvs) H1 Q E
def Binds(K:PySem.W.Frag)(fd:FuncData)(ps:List Str)(ds:List Value):Prop :=
 ∀(s:Shared) (us:List Value),K.In s.heap→(us++ds).length=ps.length→BindsTo s fd ⟨us,[]⟩ (ps.zip (us++ds))
theorem Binds.all{K:PySem.W.Frag}{fd:FuncData}{ps:List Str}(h:∀us:List Value,us.length=ps.length→bindArgs fd ⟨us,[]⟩=pure (ps.zip us)):Binds K fd ps []:=λs us _ hl=>by
 rw[List.append_nil] at hl ⊢
 exact .of_eq (h us hl)
def Passes(CX:CXT)(X:Cx)(E:XK):Prop:=∀(pins:List (Addr×Obj)) (σ:St) (H:Hp) (s:Shared) (e:Value) (s':Shared),Inv X pins σ H s→CX X.stack H s E e s'→X.xe e s'
section
variable{X:Cx}{CX:CXT}{k:Nat}{f C:Addr}{fd:FuncData}{ps:List Str}{sp:Sp}{dvs:List V}{ds:List Value}{E:XK}{x m:Str}{p pos apos:Pos}{e o:Expr}{es:List Expr}{ta:TE}{t:TA}
theorem Lz{pins:List (Addr×Obj)}{σ:St}{H:Hp}{s:Shared}{Q:VK}{us:List Value}{vs:List V}(F:aP X.prog X.w X.K X.mg X.base CX k f fd ps sp)(hr:eS k X.A)(hb:Binds X.K fd ps ds)(hd:Vals dvs ds)(hx:Passes CX X E)
  (I:Inv X pins σ H s) (r:Vals vs us) (h:sp (vs++dvs) H Q E):wpAny (model X.prog X.w) X.A (call (.ref f) us) (EP X pins σ Q) X.xe s:=by
 have r2:Vals (vs++dvs) (us++ds):=r.append hd
 have hl:(us++ds).length=ps.length:=by rw[← r2.length];exact F.len _ _ _ _ h
 refine wpAny_call (codeAny_mono (F.run X.A X.stack s H ⟨us,[]⟩ (us++ds) (vs++dvs) Q E hr I.Ic (hb s us I.kIn hl) r2 h) λr s' hq=>?_)
 cases r with
 | error e=>exact hx pins σ H s e s' I hq
 | ok fl =>
  cases fl with
  | ret u=>exact I.after hq
  | next=>exact False.elim hq
  | brk=>exact False.elim hq
  | cont=>exact False.elim hq
theorem Ie(F:aP X.prog X.w X.K X.mg X.base CX k f fd ps sp)(hr:eS k X.A)(hg:Gl X x)(hm:X.mg x=some (.ref f))(hk:PySem.W.keepIn X.K (.ref f)=true)(hb:Binds X.K fd ps ds)(hd:Vals dvs ds)(hx:Passes CX X E)
  (ha:PA X (e::es) t) (hdb:(x==("__debug__":Str))=false:=by decide) (he:starEach (e::es) X.env=(false,eval e X.env)::starEach es X.env:=by rfl) (hpl:(backTo pos (starEach es X.env)).any (·.1)=false:=by rfl) :
  PE X (.Call (.Name x p) (e::es) [] pos) (Kk sp dvs E t):=by
 intro pins s σ H Q I h
 refine wpAny_Call_Name_kw (pk I hg hm ?_ hdb)
 refine PySem.W.callWith_K (h₀:=X.base) I.ok.mod.kin hk (thn (ha pos pins s σ H _ I h) λus s1 ⟨vs,H1,I1,r,q⟩=>⟨I1.kIn,?_⟩) he hpl
 exact Lz F hr hb hd hx I1 r q
end
structure aT(N P:List Str)(sc:Scope):Prop where
 kind:sc.kind = .function
 co:sc.isCoroutine=false
 gen:sc.isGenerator=false
 nd:N.Nodup
 pre:N.take P.length=P
 par:∀x∈P,sc.names.lookup x=some .local∨sc.names.lookup x=some .cell
 LA:∀y∈sc.names,y.2 ≠ .free
theorem vS{kindOf:Str→Option NameKind}{x:Str}:∀{binds:List (Str×Value)}{m:Str→Option Value},(∀v,(x,v)∉binds)→bindL kindOf binds m x=m x
 | [],_,_=>rfl
 | (n,v)::r,m,h=>by
  unfold bindL
  rw[vS λw hw=>h w (List.mem_cons_of_mem _ hw)]
  split
  ·have:x≠n:=by rintro rfl;exact h v List.mem_cons_self
   simp[this]
  ·rfl
theorem vT{kindOf:Str→Option NameKind}{x:Str}:∀{binds:List (Str×Value)}{m:Str→Option Value},(∀v,(x,v)∉binds)→bindC kindOf binds m x=m x
 | [],_,_=>rfl
 | (n,v)::r,m,h=>by
  unfold bindC
  rw[vT λw hw=>h w (List.mem_cons_of_mem _ hw)]
  split
  ·rfl
  ·have:x≠n:=by rintro rfl;exact h v List.mem_cons_self
   simp[this]
theorem vU{kindOf:Str→Option NameKind}{x:Str}{v:Value}:∀{P:List Str}{vs:List Value}{i:Nat}{m:Str→Option Value},P.Nodup→P[i]?=some x→vs[i]?=some v→kindOf x=some .local →
  bindL kindOf (P.zip vs) m x=some v
 | [],_,_,_,_,h,_,_=>by simp at h
 | _::_,[],_,_,_,_,h,_=>by simp at h
 | p::P,w::vs,0,m,nd,h1,h2,hk=>by
  simp at h1 h2;subst h1;subst h2
  show bindL kindOf ((p,w)::P.zip vs) m p=_
  unfold bindL
  rw[vS λv hv=>(List.nodup_cons.mp nd).1 (List.of_mem_zip hv).1,if_pos hk]
  simp
 | p::P,w::vs,i+1,m,nd,h1,h2,hk=>by
  show bindL kindOf ((p,w)::P.zip vs) m x=_
  unfold bindL
  exact vU (i:=i) (List.nodup_cons.mp nd).2 (by simpa using h1) (by simpa using h2) hk
theorem vV{kindOf:Str→Option NameKind}{x:Str}{v:Value}:∀{P:List Str}{vs:List Value}{i:Nat}{m:Str→Option Value},P.Nodup→P[i]?=some x→vs[i]?=some v→kindOf x≠some .local →
  bindC kindOf (P.zip vs) m x=some v
 | [],_,_,_,_,h,_,_=>by simp at h
 | _::_,[],_,_,_,_,h,_=>by simp at h
 | p::P,w::vs,0,m,nd,h1,h2,hk=>by
  simp at h1 h2;subst h1;subst h2
  show bindC kindOf ((p,w)::P.zip vs) m p=_
  unfold bindC
  rw[vT λv hv=>(List.nodup_cons.mp nd).1 (List.of_mem_zip hv).1,if_neg hk]
  simp
 | p::P,w::vs,i+1,m,nd,h1,h2,hk=>by
  show bindC kindOf ((p,w)::P.zip vs) m x=_
  unfold bindC
  exact vV (i:=i) (List.nodup_cons.mp nd).2 (by simpa using h1) (by simpa using h2) hk
def start(N:List Str)(vs:List V):St:=vs.map some++List.replicate (N.length-vs.length) none
def pv(CX:CXT)(P:Program)(w:World)(K:PySem.W.Frag)(mg:Str→Option Value)(base:Heap)(N:List Str)(qual:Str)(scope:Scope)(f:Addr)(cd:Value)(A:Around)(outer:List Env)(s:Shared)(H:Hp)(E:XK):Cx where
 prog:=P
 w:=w
 K:=K
 mg:=mg
 base:=base
 A:=A.deeper (envOfC qual scope s.heap.objs.size f cd)
 N:=N
 s₀:=s
 H₀:=H
 env:=envOfC qual scope s.heap.objs.size f cd
 outer:=outer
 stack:=envOfC qual scope s.heap.objs.size f cd::outer
 ex:=[]
 calm:=true
 fn:=λ_=>true
 pn:=[]
 xe:=λe s'=>wpAny (model P w) (A.deeper (envOfC qual scope s.heap.objs.size f cd)) (leaving (envOfC qual scope s.heap.objs.size f cd) e) (λ_ s''=>CX outer H s E e s'') (λe' s''=>CX outer H s E e' s'') s'
theorem yH{sc:Scope}{n:Nat}{x:Str}(h:sc.names.lookup x=some .cell):∃c,(cellsFrom n sc.names []).lookup x=some c:=by
 have q:=PySem.W.cellsFrom_some sc.names n [] (.inl h)
 exact Option.isSome_iff_exists.mp q
theorem C9{CX:CXT}{P:Program}{w:World}{K:PySem.W.Frag}{mg:Str→Option Value}{base:Heap}{N ps:List Str}{qual:Str}{scope:Scope}{f:Addr}{cd:Value}{A:Around}{outer:List Env}{s s1:Shared}{H:Hp}{E:XK}{us:List Value}{vs:List V}
  (S:aT N ps scope) (hd:A.handled=none) (e0:Au P w K mg base A outer s H) (hl:vs.length=ps.length) (r:Vals vs us)
  (x:InCallC s s.heap.objs.size (bindL (envOfC qual scope s.heap.objs.size f cd).kindOf (ps.zip us) λ_=>none) (cellsFrom (s.heap.objs.size+1) scope.names []) (bindC (envOfC qual scope s.heap.objs.size f cd).kindOf (ps.zip us) λ_=>none) s1) :
  Inv (pv CX P w K mg base N qual scope f cd A outer s H E) [] (start N vs) H s1:=by
 have hpl:ps.length≤N.length:=by have:=congrArg List.length S.pre;rw[List.length_take] at this;lia
 obtain⟨h1,tk,rfl,hk⟩:=x.done
 have noA:∀b:Addr,b∉(pv CX P w K mg base N qual scope f cd A outer s H E).ex:=λb z=>absurd (show b∈([]:List Addr) from z) (by simp)
 refine⟨⟨e0.mod,S.kind,rfl,rfl,Nat.le_refl _,λy z c h1 h2=>?_,λy hy=>?_,λy c _ h=>?_,λ_=>hd,Around.frames_deeper e0.frames,.inr ⟨rfl,rfl⟩,λb z=>absurd z (noA b),e0.bs,e0.bsz,λb _ _=>noA b,λb z=>absurd z (noA b),e0.oh,e0.frf⟩,
  rfl,e0.bare,Un.kept hk,⟨_,x.toInCall.ns,λi y v h1 h2 h3=>?_⟩,λy c h=>⟨_,x.cell y c h⟩,e0.hok.fresh (Nat.le_refl _),λy c h=>?_,λp hp=>absurd (show p∈([]:List (Addr×Obj)) from hp) (by simp),e0.hok.kept hk,?_⟩
 ·exact name_of_addr x.apart (PySem.mem_of_lookup h1) (PySem.mem_of_lookup h2)
 ·have hy:scope.names.lookup y=some .cell∨scope.names.lookup y=some .free:=hy
  rcases hy with hy|hy
  ·exact yH hy
  ·exact absurd rfl (S.LA _ (PySem.mem_of_lookup hy))
 ·exact Nat.le_of_lt (x.above y c (PySem.mem_of_lookup h))
 ·have hi:i<vs.length:=by
   unfold start at h2
   by_cases hi:i<vs.length
   ·exact hi
   ·rw[List.getElem?_append_right (by simpa using hi)] at h2
    rw[List.getElem?_replicate] at h2
    split at h2<;>cases h2
  have ha:vs[i]?=some v:=by
   unfold start at h2
   rw[List.getElem?_append_left (by simpa using hi),List.getElem?_map] at h2
   cases e:vs[i]? with
   | none=>rw[e] at h2;cases h2
   | some a=>rw[e] at h2;cases h2;rfl
  obtain⟨u,hu,rv⟩:=r.get ha
  have hp:ps[i]?=some y:=by
   rw[← S.pre,List.getElem?_take_of_lt (by lia)];exact h1
  have ndP:ps.Nodup:=by rw[← S.pre];exact S.nd.sublist (List.take_sublist _ _)
  refine⟨u,rv,?_⟩
  rcases S.par y (List.mem_of_getElem? hp) with k|k
  ·exact .inl ⟨k,vU ndP hp hu k⟩
  ·obtain⟨c,e⟩:=yH (n:=s.heap.objs.size+1) k
   refine .inr ⟨.inl k,c,e,?_⟩
   have q:=x.cell y c e
   rw[vV ndP hp hu (by show scope.names.lookup y≠_;rw[k];decide)] at q
   exact q
 ·exact e0.hok.fresh (Nat.le_of_lt (x.above y c (PySem.mem_of_lookup h)))
 ·unfold start
  show _=N.length
  rw[List.length_append,List.length_map,List.length_replicate]
  lia
theorem Kl{CX:CXT}{P:Program}{w:World}{K:PySem.W.Frag}{mg:Str→Option Value}{base:Heap}{k:Nat}{f:Addr}{name qual:Str}{params:Arguments}{body:List Stmt}{scope:Scope}{dV kV doc pm cdv ct oc:Value}{an od:Option Addr}
  {osl:Array (Option Value)}{N ps:List Str}{sp:Sp} (lk:K.lookup f=some ⟨oc,od,.func (PySem.W.fnOf name qual params body scope dV kV doc pm an cdv ct),osl⟩) (hcd:PySem.W.codeIn K cdv qual=true) (S:aT N ps scope)
  (len:∀vs H Q E,sp vs H Q E→vs.length=ps.length)
  (E6:∀(A:Around) (outer:List Env) (s:Shared) (H:Hp) (vs:List V) (Q:VK) (E:XK),eS k (A.deeper (envOfC qual scope s.heap.objs.size f cdv))→sp vs H Q E →
   ∃t,PSs (pv CX P w K mg base N qual scope f cdv A outer s H E) body t∧t { nx:=λ_ H'=>Q .non H',rt:=Q } (start N vs) H) :
  aP P w K mg base CX (k+1) f (PySem.W.fnOf name qual params body scope dV kV doc pm an cdv ct) ps sp:=by
 refine⟨len,λA outer s H args us vs Q E hr e0 hb r hsp=>?_⟩
 have hl:=len _ _ _ _ hsp
 have KX:K.In s.heap:=e0.mod.kin.keeps λb o e=>(e0.bs b o e).1
 have lim:s.heap.NoLimit:=e0.mod.nolimit.keeps λb o e=>(e0.bs b o e).1
 have N7:∀y∈ps.zip us,scope.names.lookup y.1=some .local∨(scope.names.lookup y.1=some .cell∧((cellsFrom (s.heap.objs.size+1) scope.names []).lookup y.1).isSome=true):=λax hy=>by
  obtain⟨n,v⟩:=ax
  rcases S.par n (List.of_mem_zip hy).1 with q|q
  ·exact .inl q
  ·exact .inr ⟨q,PySem.W.cellsFrom_some _ _ _ (.inl q)⟩
 refine codeAny_call_function hr.depth (KX _ _ lk) rfl S.co S.gen rfl (PySem.W.codeRec_of KX hcd) (hb _ _ _ _ ?_)
 refine wpAny_newFunctionEnv_cells S.kind N7 λenv he s1 x=>?_
 subst he
 refine⟨lim.keeps x.toInCall.keep,codeAny_func ?_⟩
 obtain⟨t,ht,hq⟩:=E6 A outer s H vs Q E (hr.deeper _) hsp
 have I:Inv (pv CX P w K mg base N qual scope f cdv A outer s H E) [] (start N vs) H s1:=C9 S hr.hd e0 hl r x
 refine wpAny_mono (ht [] s1 (start N vs) H _ I hq) (λfl s' hs=>?_) λe s' hs=>hs
 have fin:∀{σ':St}{H':Hp}{v:V}{u:Value},Inv (pv CX P w K mg base N qual scope f cdv A outer s H E) [] σ' H' s'→RelV v u→Q v H'→CE outer P w H s Q u s' :=
  λ{σ' H' v u} J rv q=>⟨v,H',J.os,J.bare,J.base,J.hok,rv,q⟩
 cases fl with
 | ret u =>
  obtain⟨v,σ',H',J,rv,q⟩:=hs
  exact fin J rv q
 | next =>
  obtain⟨σ',H',J,q⟩:=hs
  exact fin (v:=V.non) (u:=Value.none) J rfl q
 | brk =>
  obtain⟨_,_,_,q⟩:=hs
  exact False.elim q
 | cont =>
  obtain⟨_,_,_,q⟩:=hs
  exact False.elim q
section
variable{X:Cx}{x:Str}{p pos:Pos}{e:Expr}{es:List Expr}{t:TA}{id T:String}{r:List V→Hp→VK→Prop}
def tCB(r:List V→Hp→VK→Prop)(t:TA):TE:=λσ H Q=>t σ H λvs H1=>r vs H1 Q
theorem kb(hc:fL X (.builtin id) r)(hg:Gl X x)(hm:X.mg x=none)(hv:bootBuiltins x=some (.builtin id))(ha:PA X (e::es) t)(hn:x≠"__name__":=by decide)(hdb:(x==("__debug__":Str))=false:=by decide)
  (he:starEach (e::es) X.env=(false,eval e X.env)::starEach es X.env:=by rfl) (hpl:(backTo pos (starEach es X.env)).any (·.1)=false:=by rfl):PE X (.Call (.Name x p) (e::es) [] pos) (tCB r t):=by
 intro pins s σ H Q I h
 refine wpAny_Call_Name_kw (oi I hg hm hv ?_ hn hdb)
 exact PyProof.Rows.callWith_builtin1 (thn (ha pos pins s σ H _ I h) λus s1 ⟨vs,H1,I1,r1,q1⟩=>hc pins s1 σ H1 vs us Q I1 r1 q1) he hpl
theorem vW(hc:fL X (.type T) r)(hg:Gl X x)(hm:X.mg x=none)(hv:bootBuiltins x=some (.type T))(ha:PA X (e::es) t)(hn:x≠"__name__":=by decide)(hdb:(x==("__debug__":Str))=false:=by decide)
  (he:starEach (e::es) X.env=(false,eval e X.env)::starEach es X.env:=by rfl) (hpl:(backTo pos (starEach es X.env)).any (·.1)=false:=by rfl):PE X (.Call (.Name x p) (e::es) [] pos) (tCB r t):=by
 intro pins s σ H Q I h
 refine wpAny_Call_Name_kw (oi I hg hm hv ?_ hn hdb)
 exact PyProof.Rows.callWith_type1 (thn (ha pos pins s σ H _ I h) λus s1 ⟨vs,H1,I1,r1,q1⟩=>hc pins s1 σ H1 vs us Q I1 r1 q1) he hpl
end
end L2
namespace HT
open PySem PyProof.Rows
section
open PySem.SeqAt
open PySem.AutoSeq1 (wpAny_loadPart')
open PySem.MeetsSeq PySem.MeetsSeq2 PySem.MeetsSeq3
end
section
variable{prog:Program}{w:World}{A:Around}{E:Value→Shared→Prop}{s:Shared}
theorem Ig{t b:Addr}{vs ws:List Value}{Q:Value→Shared→Prop}(ht:IsTup s.heap t vs.toArray)(hb:IsTup s.heap b ws.toArray)(hv:vs≠[])
  (h1:ws=[]→Q (.ref t) s) (h2:ws≠[]→Q (.ref s.heap.objs.size) { s with heap:=s.heap.push { cls:=.type "tuple",data:=.seq (vs++ws).toArray } })
  (hsz:vs.length+ws.length≤sizeLine):wpAny (model prog w) A (binaryOp .Add (.ref t) (.ref b)) Q E s:=by
 obtain⟨⟨cls,dd,data,sl⟩,ho,hc,n,hd⟩:=id ht
 obtain⟨⟨N8,dd2,data2,sl2⟩,ho2,hc2,n2,hd2⟩:=id hb
 simp only at hc hd hc2 hd2
 subst hc hd hc2 hd2
 have e:vs.toArray++ws.toArray=(vs++ws).toArray:=by simp
 by_cases hw:ws=[]
 ·exact concat_meets ⟨_,ho,rfl⟩ ⟨_,ho2,rfl⟩ noFill_tuple_add seq_tuple_add PySem.F.slot_tuple_add PySem.F.entry_tuple_add (PySem.F.args_tuple_add_2 _ _)
   (tuple_addW1 t b vs.toArray ws.toArray n n2 dd dd2 sl sl2 (by simpa using hv) (by simp[hw])) ⟨ho,ho2,h1 hw⟩
 ·refine concat_meets ⟨_,ho,rfl⟩ ⟨_,ho2,rfl⟩ noFill_tuple_add seq_tuple_add PySem.F.slot_tuple_add PySem.F.entry_tuple_add (PySem.F.args_tuple_add_2 _ _)
   (tuple_addW2 t b vs.toArray ws.toArray n n2 dd dd2 sl sl2 (by simpa using hv) (by simpa using hw) (by rw[List.size_toArray,List.size_toArray];exact hsz)) ⟨ho,ho2,?_⟩
  rw[e]
  exact h2 hw
def sIx(n d:Nat):Option Int→Nat
 | none=>d
 | some v=>if v<0 then (v+(n:Int)).toNat else min v.toNat n
theorem LB(n d:Nat)(hd:d≤n)(o:Option Int):sIx n d o≤n:=by
 cases o with
 | none=>exact hd
 | some v =>
  show (if v<0 then (v+(n:Int)).toNat else min v.toNat n)≤n
  by_cases hv:v<0
  ·rw[if_pos hv];lia
  ·rw[if_neg hv];exact Nat.min_le_right _ _
theorem BO(v:Int)(n d:Nat):(if v<0 then max (v+(n:Int)) 0 else min v (n:Int))=((sIx n d (some v):Nat):Int):=by
 show (if v<0 then max (v+(n:Int)) 0 else min v (n:Int))=(((if v<0 then (v+(n:Int)).toNat else min v.toNat n):Nat):Int)
 by_cases hv:v<0
 ·simp only[if_pos hv];lia
 ·simp only[if_neg hv];lia
theorem Av(lo hi:Option Int)(n:Nat):Builtin.Slice.sliceAdjust lo hi 1 (n:Int)=(((sIx n 0 lo:Nat):Int),((sIx n n hi:Nat):Int)):=by
 have h1:¬ ((1:Int)<0):=by lia
 unfold Builtin.Slice.sliceAdjust
 simp only[h1,if_false]
 refine Prod.ext ?_ ?_
 ·cases lo with
  | none=>rfl
  | some v=>exact BO v n 0
 ·cases hi with
  | none=>rfl
  | some v=>exact BO v n n
theorem Aw(i j:Nat):Builtin.Slice.slicePlaces (i:Int) (j:Int) 1=j-i:=by
 unfold Builtin.Slice.slicePlaces
 have h1:(1:Int) > 0:=by lia
 simp only[h1,if_true,Int.ediv_one]
 split<;>lia
theorem sT{v:Value}{o:Option Int}{Q:Option Int→Shared→Prop}(p:IsPart v o)(h:Q o s):wpAny (model prog w) A (Builtin.Slice.slicePartIndex v) Q E s:=by
 cases p with
 | none=>exact slicePart_none h
 | int i t=>exact slicePart_int h
theorem qk{sl:Addr}{vl vu:Value}{lo hi:Option Int}{n:Nat}{Q:Int×Int×Nat→Shared→Prop}(hs:s.heap.IsSliceOf sl vl vu .none)(pl:IsPart vl lo)(pu:IsPart vu hi)
  (h:Q (((sIx n 0 lo:Nat):Int),1,sIx n n hi-sIx n 0 lo) s):wpAny (model prog w) A (Builtin.Slice.sliceApplied (.ref sl) (pure (n:Int))) Q E s:=by
 obtain⟨os,hos,hcs,hds⟩:=id hs
 unfold Builtin.Slice.sliceApplied Builtin.Slice.sliceFields
 refine wpAny_bind (wpAny_bind (wpAny_field hos hds (x:=vl) rfl (wpAny_bind (wpAny_field hos hds (x:=vu) rfl (wpAny_bind (wpAny_field hos hds (x:=.none) rfl (wpAny_pure ?_)))))))
 refine wpAny_bind (slicePart_none ?_)
 show wpAny _ _ (if ((1:Int)==0)=true then _ else _) _ _ s
 rw[if_neg (by decide)]
 refine wpAny_bind (sT pl (wpAny_bind (sT pu (wpAny_bind (wpAny_pure ?_)))))
 show wpAny _ _ (match Builtin.Slice.sliceAdjust lo hi 1 (n:Int) with|(lo,hi)=>pure (lo,(1:Int),Builtin.Slice.slicePlaces lo hi 1)) _ _ s
 rw[Av lo hi n]
 show wpAny _ _ (pure (((sIx n 0 lo:Nat):Int),(1:Int),Builtin.Slice.slicePlaces ((sIx n 0 lo:Nat):Int) ((sIx n n hi:Nat):Int) 1)) _ _ s
 rw[Aw]
 exact wpAny_pure h
theorem E7(xs:Array Value)(i k:Nat):((List.range k).filterMap λ(m:Nat)=>xs[((i:Int)+(m:Int)*1).toNat]?).toArray=((xs.toList.drop i).take k).toArray:=by
 have e:(λ(m:Nat)=>xs[((i:Int)+(m:Int)*1).toNat]?)=λm=>xs[i+m]?:=by
  funext m
  have:((i:Int)+(m:Int)*1).toNat=i+m:=by lia
  rw[this]
 rw[e]
 have:=pick_run xs i k
 rw[List.filterMap_map] at this
 have e2:((λx=>xs[x]?) ∘ λx=>i+x)=λm=>xs[i+m]?:=rfl
 rw[e2] at this
 rw[this]
theorem pw{t sl:Addr}{items:Array Value}{vl vu:Value}{lo hi:Option Int}{Q:Value→Shared→Prop}(ht:IsTup s.heap t items)(hs:s.heap.IsSliceOf sl vl vu .none)(pl:IsPart vl lo)(pu:IsPart vu hi)
  (hw:¬ (sIx items.size 0 lo=0∧sIx items.size items.size hi=items.size))
  (h:Q (.ref s.heap.objs.size) { s with heap:=s.heap.push { cls:=.type "tuple",data:=.seq ((items.toList.drop (sIx items.size 0 lo)).take (sIx items.size items.size hi-sIx items.size 0 lo)).toArray } })
  (hsz:items.size≤sizeLine):wpAny (model prog w) A (getItem (.ref t) (.ref sl)) Q E s:=by
 have BP:sizeOk (.seq ((items.toList.drop (sIx items.size 0 lo)).take (sIx items.size items.size hi-sIx items.size 0 lo)).toArray):=by
  show ((items.toList.drop (sIx items.size 0 lo)).take (sIx items.size items.size hi-sIx items.size 0 lo)).toArray.size≤sizeLine
  rw[List.size_toArray,List.length_take,List.length_drop,Array.length_toList]
  lia
 have hj:sIx items.size items.size hi≤items.size:=LB _ _ (Nat.le_refl _) hi
 obtain⟨os,hos,hcs,hds⟩:=id hs
 have hTs:s.TypeIs (.ref sl) "slice":=⟨os,hos,hcs⟩
 unfold getItem
 try with_reducible refine wpAny_holding ?_
 first|refine wpAny_bind (wpAny_pure ?_)|skip
 refine wpAny_bind (wpAny_sequenceKey ht.typeIs (by decide) ?_)
 refine wpAny_bind (wpAny_callSpecial?_slot (name:=Str.ofString "__getitem__") ht.typeIs PyProof.Rows.slot_tuple_getitem
  (wpAny_call_entry PyProof.Rows.slot_tuple_getitem ht.typeIs entry_tuple_getitem ?_ (args_tuple_getitem _ _)))
 show wpAny _ _ (Builtin.Tuple.tupleItemsOf (.ref t)>>=_) _ _ s
 refine wpAny_bind (tupleItemsOf_ ht ?_)
 refine wpAny_bind (wpAny_typeOf hTs ?_)
 rw[if_pos (by decide)]
 refine wpAny_bind (qk hs pl pu ?_)
 have hno:¬ ((((sIx items.size 0 lo:Nat):Int)==0 && (1:Int)==1 && (sIx items.size items.size hi-sIx items.size 0 lo)==items.size)=true):=by
  intro q
  rw[Bool.and_eq_true,Bool.and_eq_true] at q
  have q1:((sIx items.size 0 lo:Nat):Int)=0:=eq_of_beq q.1.1
  have q2:sIx items.size items.size hi-sIx items.size 0 lo=items.size:=eq_of_beq q.2
  exact hw ⟨by lia,by lia⟩
 show wpAny _ _ (if (((sIx items.size 0 lo:Nat):Int)==0 && (1:Int)==1 && (sIx items.size items.size hi-sIx items.size 0 lo)==items.size)=true then _ else _) _ _ s
 rw[if_neg hno,E7]
 first
  | exact wpAny_bind (m:=Builtin.Tuple.tupleExact _) (wpAny_newObj_type (wpAny_pure ⟨_,rfl,wpAny_pure h⟩) BP)
  | exact wpAny_bind (m:=Builtin.Tuple.tupleExact _) (wpAny_newObj_type (wpAny_bind (wpAny_pure (wpAny_pure ⟨_,rfl,wpAny_pure h⟩))) BP)
  | exact wpAny_bind (wpAny_bind (m:=Builtin.Tuple.tupleExact _) (wpAny_newObj_type (wpAny_pure (wpAny_pure ⟨_,rfl,wpAny_pure h⟩)) BP))
  | exact wpAny_bind (wpAny_bind (m:=Builtin.Tuple.tupleExact _) (wpAny_newObj_type (wpAny_pure ⟨_,rfl,wpAny_pure h⟩) BP))
end
end HT
namespace L2
open PySem PySem.Spec PyProof.Rows
noncomputable abbrev TO := St → Hp → (Option Int → Hp → Prop) → Prop
def PO(X:Cx)(e:Option Expr)(t:TO):Prop :=
 ∀(pins:List (Addr×Obj)) (s:Shared) (σ:St) (H:Hp) (Q:Option Int→Hp→Prop),Inv X pins σ H s→t σ H Q →
  wpAny (model X.prog X.w) X.A (evalPart e X.env) (λu s'=>∃o H',Inv X pins σ H' s'∧IsPart u o∧Q o H') X.xe s
def Ih:TO:=λ_ H Q=>Q none H
def N9(t:TE):TO:=λσ H Q=>t σ H λx H1=>∃i,x = .int i∧Q (some i) H1
theorem intsAre_of{ns:List Int}:∀{us:List Value},Vals (ns.map V.int) us→IntsAre us ns:=by
 induction ns with
 | nil=>intro us r;rw[List.map_nil] at r;cases r;exact .nil
 | cons n ns ih =>
  intro us r
  rw[List.map_cons] at r
  cases r with
  | cons r1 r2 =>
   obtain⟨t,e⟩:=r1
   subst e
   exact .cons n t (ih r2)
section
variable{X:Cx}{e:Expr}{te:TE}{lo hi:Option Expr}{tl th:TO}{pos p2:Pos}
theorem Ii:PO X none Ih:=by
 intro pins s σ H Q I h
 rw[evalPart_none]
 exact wpAny_pure ⟨none,H,I,.none,h⟩
theorem Ij(h:PE X e te):PO X (some e) (N9 te):=by
 intro pins s σ H Q I hw
 rw[evalPart_some]
 refine thn (h pins s σ H _ I hw) λu s1 ax=>?_
 obtain⟨x,H1,I1,r1,q1⟩:=ax
 obtain⟨i,rfl,q⟩:=q1
 obtain⟨t,rfl⟩:=r1
 exact⟨some i,H1,I1,.int i t,q⟩
def SlR(X:Cx)(r:V→Option Int→Option Int→Hp→VK→Prop):Prop :=
 ∀(pins:List (Addr×Obj)) (s:Shared) (σ:St) (H:Hp) (x:V) (v vl vu:Value) (lo hi:Option Int) (sl:Addr) (Q:VK),Inv X pins σ H s→RelV x v→s.heap.IsSliceOf sl vl vu .none→IsPart vl lo→IsPart vu hi→r x lo hi H Q →
  ∃T id,typeLookup (.type T) "__getitem__"=pure (some (.builtin id))∧s.TypeIs v T∧wpAny (model X.prog X.w) X.A (getItem v (.ref sl)) (EP X pins σ Q) X.xe s
theorem SlR.or{r r':V→Option Int→Option Int→Hp→VK→Prop}(h:SlR X r)(h':SlR X r'):SlR X (λx lo hi H Q=>r x lo hi H Q∨r' x lo hi H Q):=by
 intro pins s σ H x v vl vu lo hi sl Q I rx hs pl pu q
 rcases q with q|q
 ·exact h pins s σ H x v vl vu lo hi sl Q I rx hs pl pu q
 ·exact h' pins s σ H x v vl vu lo hi sl Q I rx hs pl pu q
def tSl(r:V→Option Int→Option Int→Hp→VK→Prop)(te:TE)(tl th:TO):TE:=λσ H Q=>te σ H λx H1=>tl σ H1 λl H2=>th σ H2 λu H3=>r x l u H3 Q
theorem E8{r:V→Option Int→Option Int→Hp→VK→Prop}(hr:SlR X r)(he:PE X e te)(hl:PO X lo tl)(hu:PO X hi th):PE X (.Subscript e (.Slice lo hi none p2) pos) (tSl r te tl th):=by
 intro pins s σ H Q I h
 refine Subscript_ (thn (he pins s σ H _ I h) λv s1 ax=>?_)
 obtain⟨x,H1,I1,r1,q1⟩:=ax
 refine wpAny_Slice (thn (hl pins s1 σ H1 _ I1 q1) λvl s2 ⟨l,H2,I2,pl,q2⟩=>thn (hu pins s2 σ H2 _ I2 q2) λvu s3 eA=>?_)
 obtain⟨u,H3,I3,pu,q3⟩:=eA
 rw[evalPart_none]
 refine wpAny_pure ?_
 have I4:Inv X pins σ H3 { s3 with heap:=s3.heap.push { cls:=.type "slice",data:=.fields #[vl,vu,.none] } }:=I3.kept (t':=s3.toks) λb ob q=>Heap.get?_push_of_some _ q
 obtain⟨T,id,hT,ht,hg⟩:=hr pins { s3 with heap:=s3.heap.push { cls:=.type "slice",data:=.fields #[vl,vu,.none] } } σ H3 x v vl vu l u s3.heap.objs.size Q I4 r1 (Heap.IsSliceOf.new ..) pl pu q3
 show wpAny (model X.prog X.w) X.A (subscriptTail e (.Slice lo hi none p2) v (.ref s3.heap.objs.size)) (EP X pins σ Q) X.xe { s3 with heap:=s3.heap.push { cls:=.type "slice",data:=.fields #[vl,vu,.none] } }
 exact tail_any (ops:=[.ref s3.heap.objs.size,v]) ht hT hg (by with_unfolding_all rfl)
def yI(xs:List V)(lo hi:Option Int):List V:=(xs.drop (HT.sIx xs.length 0 lo)).take (HT.sIx xs.length xs.length hi-HT.sIx xs.length 0 lo)
theorem rD(xs:List V)(lo hi:Option Int):(yI xs lo hi).length≤xs.length:=by
 unfold yI
 rw[List.length_take,List.length_drop]
 lia
def QN(K:PySem.W.Frag):V→Option Int→Option Int→Hp→VK→Prop:=λx lo hi H Q=>∃a xs,x = .ref a∧SqT K H a xs ∧
 ¬ (HT.sIx xs.length 0 lo=0∧HT.sIx xs.length xs.length hi=xs.length)∧∀p,H p=none→Q (.ref p) (upd H p (.tup (yI xs lo hi)))
theorem LC:SlR X (QN X.K):=by
 intro pins s σ H x v vl vu lo hi sl Q I rx hs pl pu h
 obtain⟨a,xs,rfl,hx,hw,q⟩:=h
 cases rx
 obtain⟨its,r,ht,hz⟩:=I.tuple hx
 have hlen:its.toArray.size=xs.length:=by rw[List.size_toArray];exact r.length.symm
 refine⟨"tuple",_,PyProof.Rows.slot_tuple_getitem.lookup,ht.typeIs,?_⟩
 refine HT.pw ht hs pl pu (by rw[hlen];exact hw) ?_ (by rw[hlen];exact hz)
 rw[hlen]
 refine⟨.ref s.heap.objs.size,_,I.laid (t':=s.toks) (o:=.tup (yI xs lo hi)) (λb ob q=>Heap.get?_push_of_some _ q) (Nat.le_refl _) ?_,rfl,q _ (I.hok.fresh (Nat.le_refl _))⟩
 exact⟨Nat.le_trans (rD xs lo hi) hz,_,(r.drop (HT.sIx xs.length 0 lo)).take (HT.sIx xs.length xs.length hi-HT.sIx xs.length 0 lo),IsTup.new _ _⟩
def N_(K:PySem.W.Frag):R2:=λx y H Q=>∃a b xs ys,x = .ref a∧y = .ref b∧SqT K H a xs∧SqT K H b ys∧xs≠[]∧xs.length+ys.length≤sizeLine ∧
 (ys=[]→Q (.ref a) H)∧(ys≠[]→∀p,H p=none→Q (.ref p) (upd H p (.tup (xs++ys))))
theorem Vals.sy{xs:List V}{us:List Value}(r:Vals xs us):us=[]↔xs=[]:=by
 cases r with
 | nil=>simp
 | cons _ _=>simp
theorem Ik:OpR X (binaryOp .Add) (N_ X.K):=by
 intro pins s σ H x y v u Q I rx ry h
 obtain⟨a,b,xs,ys,rfl,rfl,ha,hb,hx,hz,q1,q2⟩:=h
 cases rx
 cases ry
 obtain⟨its,r1,p1,_⟩:=I.tuple ha
 obtain⟨rT,r2,p2,_⟩:=I.tuple hb
 refine HT.Ig p1 p2 (λz=>hx (r1.sy.mp z)) (λz=>⟨.ref a,H,I,rfl,q1 (r2.sy.mp z)⟩) (λz=>?_) (by rw[← r1.length,← r2.length];exact hz)
 refine⟨.ref s.heap.objs.size,_,I.laid (t':=s.toks) (o:=.tup (xs++ys)) (λb ob q=>Heap.get?_push_of_some _ q) (Nat.le_refl _) ?_,rfl,q2 (λw=>z (r2.sy.mpr w)) _ (I.hok.fresh (Nat.le_refl _))⟩
 exact⟨by rw[List.length_append];exact hz,_,r1.append r2,IsTup.new _ _⟩
end
def ixN(n:Nat)(i:Int):Option Nat:=if 0≤i then (if i<n then some i.toNat else none) else if -(n:Int)≤i then some (i+n).toNat else none
def atI{α:Type}(xs:List α)(i:Int):Option α:=(ixN xs.length i).bind λj=>xs[j]?
theorem BQ{n:Nat}{i:Int}{j:Nat}(h:ixN n i=some j):seqIndex? i n=some j∧j<n ∧ -(n:Int)≤i∧i<n:=by
 unfold ixN at h
 by_cases h0:0≤i
 ·rw[if_pos h0] at h
  by_cases h1:i<n
  ·rw[if_pos h1] at h
   have e:i.toNat=j:=Option.some.inj h
   exact⟨by rw[seqIndex_of h0 h1,e],by lia,by lia,h1⟩
  ·rw[if_neg h1] at h;cases h
 ·rw[if_neg h0] at h
  by_cases h1:-(n:Int)≤i
  ·rw[if_pos h1] at h
   have e:(i+n).toNat=j:=Option.some.inj h
   exact⟨by rw[seqIndex_neg (by lia) h1,e],by lia,h1,by lia⟩
  ·rw[if_neg h1] at h;cases h
theorem wV{α:Type}{xs:List α}{i:Int}{v:α}(h:atI xs i=some v):∃j,seqIndex? i xs.length=some j∧xs[j]?=some v∧j<xs.length ∧ -(xs.length:Int)≤i∧i<xs.length:=by
 unfold atI at h
 cases e:ixN xs.length i with
 | none=>rw[e] at h;cases h
 | some j =>
  rw[e] at h
  obtain⟨h1,h2,h3,h4⟩:=BQ e
  exact⟨j,h1,h,h2,h3,h4⟩
def BR(b:Expr):Prop:=∀o i,subscripted b false o i=operate [o,i] (getItem o i)
def IxR(X:Cx)(r:R2):Prop :=
 ∀(value slice:Expr) (pins:List (Addr×Obj)) (s:Shared) (σ:St) (H:Hp) (x y:V) (v u:Value) (Q:VK),Inv X pins σ H s→RelV x v→RelV y u→r x y H Q →
  subscripted slice false v u=operate [v,u] (getItem v u)→wpAny (model X.prog X.w) X.A (subscriptTail value slice v u) (EP X pins σ Q) X.xe s
def MtR(X:Cx)(id:String)(r:V→List V→Hp→VK→Prop):Prop :=
 ∀(pins:List (Addr×Obj)) (s:Shared) (σ:St) (H:Hp) (x:V) (xs:List V) (v:Value) (us:List Value) (Q:VK),Inv X pins σ H s→RelV x v→Vals xs us→r x xs H Q →
  wpAny (model X.prog X.w) X.A (call (.builtin id) (v::us)) (EP X pins σ Q) X.xe s
section
variable{X:Cx}{a b:Expr}{ta tb:TE}{pos:Pos}
theorem IxR.or{r r':R2}(h:IxR X r)(h':IxR X r'):IxR X (λx y H Q=>r x y H Q∨r' x y H Q):=by
 intro value slice pins s σ H x y v u Q I rx ry q hs
 rcases q with q|q
 ·exact h value slice pins s σ H x y v u Q I rx ry q hs
 ·exact h' value slice pins s σ H x y v u Q I rx ry q hs
theorem Oa{r:R2}(hr:IxR X r)(ha:PE X a ta)(hb:PE X b tb)(hs:BR b):PE X (.Subscript a b pos) (tOp r ta tb):=by
 intro pins s σ H Q I h
 exact Subscript_ (Lj ha hb I h λv u s2 x y H2 I2 rx ry q=>hr a b pins s2 σ H2 x y v u Q I2 rx ry q (hs _ _))
def Ob(K:PySem.W.Frag):R2:=λx y H Q=>∃p xs i v,x = .ref p∧y = .int i∧SqL K H p xs∧atI xs i=some v∧Q v H
def Oc(K:PySem.W.Frag):R2:=λx y H Q=>∃p xs i v,x = .ref p∧y = .int i∧SqT K H p xs∧atI xs i=some v∧Q v H
def Od:R2:=λx y H Q=>∃z i c,x = .str z∧y = .int i∧z.length≤sizeLine∧atI z.cps.toList i=some c∧Q (.str ⟨#[c]⟩) H
theorem Il:IxR X (Ob X.K):=by
 intro value slice pins s σ H x y v u Q I rx ry h hs
 obtain⟨p,xs,i,z,rfl,rfl,hq,he,q⟩:=h
 cases rx
 obtain⟨t,rfl⟩:=ry
 obtain⟨its,r,pl,hz⟩:=I.list hq
 obtain⟨j,h1,h2,h3,h4,h5⟩:=wV he
 obtain⟨w,ew,rw'⟩:=r.get h2
 have hl:=r.length
 have hn:=qi
 have fin:EP X pins σ Q w s:=⟨z,H,I,rw',q⟩
 by_cases h0:0≤i
 ·have hj:i.toNat=j:=by
   rw[seqIndex_of h0 h5] at h1
   exact Option.some.inj h1
  exact item_listR pl.isList h0 (by lia) (by rw[hj];simpa using ew) fin hs
 ·have hj:(i+(its.toArray.size:Int)).toNat=j:=by
   rw[seqIndex_neg (by lia) h4] at h1
   rw[List.size_toArray,← hl]
   exact Option.some.inj h1
  exact subscriptTail_builtinR (x:=w) pl.isList.typeIs slot_list_getitem.lookup
   (wpAny_getItem_list_neg (Q:=λr s'=>r=w∧EP X pins σ Q r s') pl.isList (by lia) (by rw[List.size_toArray]<;>lia) (by lia) (by rw[hj];simpa using ew) ⟨rfl,fin⟩) hs
theorem LD:IxR X (Oc X.K):=by
 intro value slice pins s σ H x y v u Q I rx ry h hs
 obtain⟨p,xs,i,z,rfl,rfl,hq,he,q⟩:=h
 cases rx
 obtain⟨t,rfl⟩:=ry
 obtain⟨its,r,pl,hz⟩:=I.tuple hq
 obtain⟨j,h1,h2,h3,h4,h5⟩:=wV he
 obtain⟨w,ew,rw'⟩:=r.get h2
 have hl:=r.length
 have hn:=qi
 have fin:EP X pins σ Q w s:=⟨z,H,I,rw',q⟩
 exact subscriptTail_builtinR (x:=w) pl.typeIs slot_tuple_getitem.lookup
  (getItem_tuple (j:=j) (Q:=λr s'=>r=w∧EP X pins σ Q r s') pl (by lia) (by lia) (by rw[List.size_toArray,← hl];exact h1) (by simpa using ew) ⟨rfl,fin⟩) hs
theorem LF:IxR X Od:=by
 intro value slice pins s σ H x y v u Q I rx ry h hs
 obtain⟨z,i,c,rfl,rfl,hz,he,q⟩:=h
 obtain⟨t,rfl⟩:=rx
 obtain⟨t',rfl⟩:=ry
 obtain⟨j,h1,h2,h3,h4,h5⟩:=wV he
 have hl:z.cps.toList.length=z.length:=by simp[Str.length]
 rw[hl] at h1 h4 h5
 have hn:=qi
 exact tail_any (typeIs_str s z t) slot_str_getitem.lookup (getItem_str (c:=c) (by
  have e1:decide (i < -(2 ^ 63:Int))=false:=decide_eq_false (by lia)
  have e2:decide (i ≥ 2 ^ 63)=false:=decide_eq_false (by lia)
  rw[e1,e2,Bool.or_false]) (by rw[h1];simpa using h2) ⟨.str ⟨#[c]⟩,H,I.tok _,⟨_,rfl⟩,q⟩) hs
def rIx(K:PySem.W.Frag):R2:=λx y H Q=>Ob K x y H Q∨Oc K x y H Q∨Od x y H Q
theorem LG:IxR X (rIx X.K):=Il.or (LD.or LF)
theorem Ax(its:List Value)(n j:Nat)(u:Value):Obj.mapSeq (·.setIfInBounds j u) { cls:=.type "list",data:=.seq its.toArray n }={ cls:=.type "list",data:=.seq (its.set j u).toArray n }:=by
 simp[Obj.mapSeq]
theorem Inv.lst{pins:List (Addr×Obj)}{σ:St}{H:Hp}{s:Shared}{p:Addr}{xs:List V}(I:Inv X pins σ H s)(h:H p=some (.lst xs)) :
  ∃(its:List Value) (n:Nat),Vals xs its∧s.heap.get? p=some { cls:=.type "list",data:=.seq its.toArray n }∧xs.length≤sizeLine:=by
 obtain⟨z,its,n,r,e⟩:=I.hok p _ h
 exact⟨its,n,r,e,z⟩
theorem Inv.LH{pins:List (Addr×Obj)}{σ:St}{H:Hp}{s:Shared}{p:Addr}{xs ys:List V}{its its':List Value}{n n':Nat}{f:Obj→Obj}(I:Inv X pins σ H s)(h:H p=some (.lst xs))
  (ho:s.heap.get? p=some { cls:=.type "list",data:=.seq its.toArray n }) (hf:f { cls:=.type "list",data:=.seq its.toArray n }={ cls:=.type "list",data:=.seq its'.toArray n' }) (r:Vals ys its') (hz:ys.length≤sizeLine) (t:Nat) :
  Inv X pins σ (upd H p (.lst ys)) { s with heap:=s.heap.update p f,toks:=t }:=by
 have e:(s.heap.update p f).get? p=some { cls:=.type "list",data:=.seq its'.toArray n' }:=by
  rw[Heap.get?_update_self f ho (by rw[hf]<;>rfl),hf]
 refine I.write (x:=p) (e:=p) (by rw[h];trivial) (.inl rfl) (λb u hb q=>(Heap.get?_update_other _ _ (Ne.symm hb)).trans q) ⟨_,e⟩ ?_
 exact⟨hz,its',n',r,e⟩
def Oe:V→V→V→Hp→(Hp→Prop)→Prop:=λo i v H Q=>∃p xs k j,o = .ref p∧i = .int k∧H p=some (.lst xs)∧ixN xs.length k=some j∧Q (upd H p (.lst (xs.set j v)))
theorem set_list:NX X Oe:=by
 intro pins s σ H o i v ov iv u Q I ro ri rv h
 obtain⟨p,xs,k,j,rfl,rfl,hp,hj,q⟩:=h
 cases ro
 obtain⟨t,rfl⟩:=ri
 obtain⟨its,n,r,ho,hz⟩:=I.lst hp
 obtain⟨h1,h2,h3,h4⟩:=BQ hj
 have hl:=r.length
 have hn:=qi
 have I':Inv X pins σ (upd H p (.lst (xs.set j v))) { s with heap:=s.heap.update p (Obj.mapSeq (·.setIfInBounds j u)) } :=
  I.LH hp ho (Ax its n j u) (r.set rv j) (by rw[List.length_set];exact hz) s.toks
 by_cases h0:0≤k
 ·have hk:k.toNat=j:=by
   rw[seqIndex_of h0 h4] at h1
   exact Option.some.inj h1
  exact PySem.W.ki_setAt ho h0 (by lia) (by rw[List.size_toArray,← hl];exact h4) (by rw[hk];exact⟨_,I',q⟩)
 ·have hk:(k+(its.toArray.size:Int)).toNat=j:=by
   rw[seqIndex_neg (by lia) h3] at h1
   rw[List.size_toArray,← hl]
   exact Option.some.inj h1
  exact PySem.W.ki_setBack ho (by lia) (by rw[List.size_toArray,← hl];exact h3) (by lia) (by rw[hk];exact⟨_,I',q⟩)
theorem wW(lo hi:Option Int)(n:Nat):(sliceBounds lo hi none n).1=((HT.sIx n 0 lo:Nat):Int)∧(sliceBounds lo hi none n).2.1=((HT.sIx n n hi:Nat):Int)∧(sliceBounds lo hi none n).2.2=1:=by
 refine⟨?_,?_,rfl⟩
 ·cases lo with
  | none=>simp[sliceBounds,HT.sIx]
  | some i =>
   simp only[sliceBounds,HT.sIx,Option.getD_none,show (1:Int) > 0 by decide,if_true]
   by_cases h:i<0
   ·simp only[h,if_true]<;>lia
   ·simp only[h,if_false]<;>lia
 ·cases hi with
  | none=>simp[sliceBounds,HT.sIx]
  | some i =>
   simp only[sliceBounds,HT.sIx,Option.getD_none,show (1:Int) > 0 by decide,if_true]
   by_cases h:i<0
   ·simp only[h,if_true]<;>lia
   ·simp only[h,if_false]<;>lia
theorem vd(its:List Value)(lo hi:Option Int):slicePick its.toArray lo hi none=((its.drop (HT.sIx its.length 0 lo)).take (HT.sIx its.length its.length hi-HT.sIx its.length 0 lo)).toArray:=by
 obtain⟨h1,h2,h3⟩:=wW lo hi its.toArray.size
 unfold slicePick
 rw[h1,h2,h3]
 simp only[sliceRange_one,pick_run,List.size_toArray]<;>rfl
def QO(K:PySem.W.Frag):V→Option Int→Option Int→Hp→VK→Prop:=λx lo hi H Q=>∃a xs,x = .ref a∧SqL K H a xs∧∀p,H p=none→Q (.ref p) (upd H p (.lst (yI xs lo hi)))
theorem Im:SlR X (QO X.K):=by
 intro pins s σ H x v vl vu lo hi sl Q I rx hs pl pu h
 obtain⟨a,xs,rfl,hx,q⟩:=h
 cases rx
 obtain⟨its,r,ht,hz⟩:=I.list hx
 have hlen:=r.length
 refine⟨"list",_,slot_list_getitem.lookup,ht.isList.typeIs,?_⟩
 refine wpAny_getItem_list_slice ht.isList hs pl pu .none (by simp) ?_ (by rw[List.size_toArray]<;>lia)
 rw[vd,← hlen]
 refine⟨.ref s.heap.objs.size,_,I.laid (t':=s.toks) (o:=.lst (yI xs lo hi)) (λb ob q=>Heap.get?_push_of_some _ q) (Nat.le_refl _) ?_,rfl,q _ (I.hok.fresh (Nat.le_refl _))⟩
 exact⟨Nat.le_trans (rD xs lo hi) hz,_,0,(r.drop (HT.sIx xs.length 0 lo)).take (HT.sIx xs.length xs.length hi-HT.sIx xs.length 0 lo),Heap.get?_push_size _ rfl⟩
def nX:V→Bool
 | .non=>true
 | .bl _=>true
 | .int _=>true
 | .str _=>true
 | _=>false
def eqV:V→V→Bool
 | .non,.non=>true
 | .bl a,.bl b=>a==b
 | .bl a,.int b=>(if a then 1 else 0)==b
 | .int a,.bl b=>a==(if b then 1 else 0)
 | .int a,.int b=>a==b
 | .str a,.str b=>a==b
 | _,_=>false
theorem LI{A:Around}{s:Shared}{y x:V}{u v:Value}(ry:RelV y u)(rx:RelV x v)(fy:nX y=true)(fx:nX x=true):SeqAt.EqAt A s u v (eqV y x):=by
 cases y with
 | non =>
  cases ry
  cases x with
  | non=>cases rx;exact SeqAt.EqAt.same _
  | bl b=>cases rx;exact SeqAt.EqAt.none_bool b
  | int b=>obtain⟨t,rfl⟩:=rx;exact SeqAt.EqAt.none_int b t
  | str b=>obtain⟨t,rfl⟩:=rx;exact SeqAt.EqAt.none_str b t
  | _=>exact absurd (show false=true from fx) Bool.false_ne_true
 | bl a =>
  cases ry
  cases x with
  | non=>cases rx;exact SeqAt.EqAt.bool_none a
  | bl b=>cases rx;exact SeqAt.EqAt.bool_bool a b
  | int b=>obtain⟨t,rfl⟩:=rx;exact SeqAt.EqAt.bool_int a b t
  | str b=>obtain⟨t,rfl⟩:=rx;exact SeqAt.EqAt.bool_str a b t
  | _=>exact absurd (show false=true from fx) Bool.false_ne_true
 | int a =>
  obtain⟨t',rfl⟩:=ry
  cases x with
  | non=>cases rx;exact SeqAt.EqAt.int_none a t'
  | bl b=>cases rx;exact SeqAt.EqAt.int_bool a t' b
  | int b=>obtain⟨t,rfl⟩:=rx;exact SeqAt.EqAt.int_int a t' b t
  | str b=>obtain⟨t,rfl⟩:=rx;exact SeqAt.EqAt.int_str a t' b t
  | _=>exact absurd (show false=true from fx) Bool.false_ne_true
 | str a =>
  obtain⟨t',rfl⟩:=ry
  cases x with
  | non=>cases rx;exact SeqAt.EqAt.str_none a t'
  | bl b=>cases rx;exact SeqAt.EqAt.str_bool a t' b
  | int b=>obtain⟨t,rfl⟩:=rx;exact SeqAt.EqAt.str_int a t' b t
  | str b=>obtain⟨t,rfl⟩:=rx;exact SeqAt.EqAt.str_str a t' b t
  | _=>exact absurd (show false=true from fx) Bool.false_ne_true
 | _=>exact absurd (show false=true from fy) Bool.false_ne_true
def eqU(x:V)(u:Value):Bool:=match u with
 | .none=>eqV .non x
 | .bool b=>eqV (.bl b) x
 | .int i _=>eqV (.int i) x
 | .str z _=>eqV (.str z) x
 | _=>false
theorem E9{x y:V}{u:Value}(r:RelV y u)(f:nX y=true):eqU x u=eqV y x:=by
 cases y with
 | non=>cases r;rfl
 | bl b=>cases r;rfl
 | int i=>obtain⟨t,rfl⟩:=r;rfl
 | str z=>obtain⟨t,rfl⟩:=r;rfl
 | _=>exact absurd (show false=true from f) Bool.false_ne_true
theorem wX{x:V}:∀{xs:List V}{us:List Value},Vals xs us→xs.all nX=true→us.any (eqU x)=xs.any λy=>eqV y x
 | _,_,.nil,_=>rfl
 | y::xs,u::us,.cons r t,f=>by
  rw[List.all_cons,Bool.and_eq_true] at f
  rw[List.any_cons,List.any_cons,E9 r f.1,wX t f.2]
theorem sU{A:Around}{s:Shared}{x:V}{v:Value}(rx:RelV x v)(fx:nX x=true):∀{xs:List V}{us:List Value},Vals xs us→xs.all nX=true→∀u∈us,SeqAt.EqAt A s u v (eqU x u)
 | _,_,.nil,_=>λu hu=>by cases hu
 | y::xs,u::us,.cons r t,f=>λu' hu=>by
  rw[List.all_cons,Bool.and_eq_true] at f
  rcases List.mem_cons.mp hu with rfl|hu
  ·rw[E9 r f.1];exact LI r rx f.1 fx
  ·exact sU rx fx t f.2 u' hu
def inV(x:V)(xs:List V):Bool:=xs.any λy=>eqV y x
def rIn(K:PySem.W.Frag)(neg:Bool):R2:=λx y H Q=>∃p xs,y = .ref p∧(SqL K H p xs∨SqT K H p xs)∧nX x=true∧xs.all nX=true∧Q (.bl (if neg then !inV x xs else inV x xs)) H
theorem C_:OpR X (compareOp .In) (rIn X.K false):=by
 intro pins s σ H x y v u Q I rx ry h
 obtain⟨p,xs,rfl,hq,fx,fs,q⟩:=h
 cases ry
 rcases hq with hq|hq
 ·obtain⟨its,r,pl,hz⟩:=I.list hq
  refine SeqAt.in_listAt (eqU x) pl.isList (λw hw=>sU rx fx r fs w (by simpa using hw)) ⟨.bl _,H,I,rfl,?_⟩
  rw[show its.toArray.any (eqU x)=its.any (eqU x) by simp,wX r fs]
  exact q
 ·obtain⟨its,r,pl,hz⟩:=I.tuple hq
  refine SeqAt.in_tupleAt (eqU x) pl (λw hw=>sU rx fx r fs w (by simpa using hw)) ⟨.bl _,H,I,rfl,?_⟩
  rw[show its.toArray.any (eqU x)=its.any (eqU x) by simp,wX r fs]
  exact q
theorem wY:fL X (.builtin "len") (λxs H Q=>∃p ys,xs=[.ref p]∧(SqL X.K H p ys∨SqT X.K H p ys)∧Q (.int ys.length) H):=by
 intro pins s σ H xs us Q I r h
 obtain⟨p,ys,rfl,hq,q⟩:=h
 obtain⟨u,rfl,rx⟩:=vals1 r
 cases rx
 have hn:=qi
 rcases hq with hq|hq
 ·obtain⟨its,r',pl,hz⟩:=I.list hq
  have hlen:=r'.length
  exact Calls.call_len_list pl.isList (by simp only[List.size_toArray]<;>lia) ⟨.int ys.length,H,I.tok _,⟨s.toks+1,by rw[List.size_toArray,hlen]⟩,q⟩
 ·obtain⟨its,r',pl,hz⟩:=I.tuple hq
  have hlen:=r'.length
  exact len_tuple pl (by simp only[List.size_toArray]<;>lia) ⟨.int ys.length,H,I.tok _,⟨s.toks+1,by rw[List.size_toArray,hlen]⟩,q⟩
theorem wZ:fL X (.builtin "len") (λxs H Q=>∃z,xs=[.str z]∧z.length≤sizeLine∧Q (.int z.length) H):=by
 intro pins s σ H xs us Q I r h
 obtain⟨z,rfl,hz,q⟩:=h
 obtain⟨u,rfl,t,rfl⟩:=vals1 r
 have hn:=qi
 exact len_str (by lia) ⟨.int z.length,H,I.tok _,⟨_,rfl⟩,q⟩
theorem fL.or{f:Value}{r r':List V→Hp→VK→Prop}(h:fL X f r)(h':fL X f r'):fL X f (λxs H Q=>r xs H Q∨r' xs H Q):=by
 intro pins s σ H xs us Q I rs q
 rcases q with q|q
 ·exact h pins s σ H xs us Q I rs q
 ·exact h' pins s σ H xs us Q I rs q
theorem w5:fL X (.type "list") (λxs H Q=>∃p ys,xs=[.ref p]∧(SqL X.K H p ys∨SqT X.K H p ys)∧∀l,H l=none→Q (.ref l) (upd H l (.lst ys))):=by
 intro pins s σ H xs us Q I r h
 obtain⟨p,ys,rfl,hq,q⟩:=h
 obtain⟨u,rfl,rx⟩:=vals1 r
 cases rx
 have fin:∀(its:List Value),Vals ys its→ys.length≤sizeLine→∀(h':Heap) (c':Nat),(∀b o',s.heap.get? b=some o'→h'.get? b=some o') →
   h'.get? s.heap.objs.size=some { cls:=.type "list",dict:=none,data:=.seq its.toArray c',slots:=#[] }→EP X pins σ Q (.ref s.heap.objs.size) { s with heap:=h' }:=λits r' hz h' c' kp e =>
  ⟨.ref s.heap.objs.size,_,I.laid (t':=s.toks) kp (Nat.le_refl _) (show dI X.prog X.w _ h' _ (.lst ys) from ⟨hz,its,c',r',e⟩),rfl,q _ (I.hok.fresh (Nat.le_refl _))⟩
 rcases hq with hq|hq
 ·obtain⟨its,r',pl,hz⟩:=I.list hq
  have hlen:=r'.length
  obtain⟨o,ho,hc,n,hd⟩:=pl.isList
  exact call_list_seq p (.inl rfl) ho hc hd (λh' c' kp e=>fin its r' hz h' c' kp e) (by simp only[List.size_toArray]<;>lia)
 ·obtain⟨its,r',pl,hz⟩:=I.tuple hq
  have hlen:=r'.length
  obtain⟨o,ho,hc,n,hd⟩:=pl
  exact call_list_seq p (.inr rfl) ho hc hd (λh' c' kp e=>fin its r' hz h' c' kp e) (by simp only[List.size_toArray]<;>lia)
theorem ve:fL X (.type "tuple") (λxs H Q=>∃p ys,xs=[.ref p]∧((SqL X.K H p ys∧∀l,H l=none→Q (.ref l) (upd H l (.tup ys)))∨(SqT X.K H p ys∧Q (.ref p) H))):=by
 intro pins s σ H xs us Q I r h
 obtain⟨p,ys,rfl,h⟩:=h
 obtain⟨u,rfl,rx⟩:=vals1 r
 cases rx
 rcases h with ⟨hq,q⟩|⟨hq,q⟩
 ·obtain⟨its,r',pl,hz⟩:=I.list hq
  have hlen:=r'.length
  refine call_tuple_list pl.isList (λh' kp=>?_) (by simp only[List.size_toArray]<;>lia)
  have I1:Inv X pins σ H { s with heap:=h' }:=I.kept (t':=s.toks) kp
  have I2:Inv X pins σ (upd H h'.objs.size (.tup ys)) { s with heap:=h'.push { cls:=.type "tuple",data:=.seq its.toArray } } :=
   I1.laid (t':=s.toks) (λb o e=>Heap.get?_push_of_some _ e) (Nat.le_refl _) (show dI X.prog X.w _ _ _ (.tup ys) from ⟨hz,its,r',IsTup.new _ _⟩)
  exact⟨.ref h'.objs.size,_,I2,rfl,q _ (I1.hok.fresh (Nat.le_refl _))⟩
 ·obtain⟨its,r',pl,hz⟩:=I.tuple hq
  exact call_tuple_same pl ⟨.ref p,H,I,rfl,q⟩
def tyV(K:PySem.W.Frag)(T:String)(x:V)(H:Hp):Prop:=match x with
 | .str _=>T="str"
 | .int _=>T="int"
 | .ref p=>(T="list"∧∃xs,SqL K H p xs)∨(T="tuple"∧∃o,K.lookup p=some o∧o.cls = .type "tuple"∧o.dict=none) ∨
   (T="dict"∧((∃kvs,H p=some (.dK kvs))∨∃kvs,H p=some (.dT kvs)))∨(T="set"∧∃S n,H p=some (.set S n))
 | _=>False
theorem LJ{pins:List (Addr×Obj)}{σ:St}{H:Hp}{s:Shared}{T:String}{x:V}{v:Value}(I:Inv X pins σ H s)(r:RelV x v)(ty:tyV X.K T x H) :
  s.TypeIs v T∧∀a,v = .ref a→∃ob,s.heap.get? a=some ob∧ob.dict=none:=by
 cases x with
 | str z =>
  obtain⟨t,rfl⟩:=r
  cases (show T="str" from ty)
  exact⟨typeIs_str s z t,λ_ e=>nomatch e⟩
 | int i =>
  obtain⟨t,rfl⟩:=r
  cases (show T="int" from ty)
  exact⟨typeIs_int s i t,λ_ e=>nomatch e⟩
 | ref p =>
  cases r
  rcases ty with ⟨rfl,xs,hq⟩|⟨rfl,o,hk,hc,hd⟩|⟨rfl,hk⟩|⟨rfl,S,n,hk⟩
  ·obtain⟨its,_,pl,_⟩:=I.list hq
   refine⟨pl.isList.typeIs,λa e=>?_⟩
   cases e
   obtain⟨o,n,e,c,hd,_⟩:=pl
   exact⟨o,e,hd⟩
  ·refine⟨⟨o,I.kIn p o hk,hc⟩,λa e=>?_⟩
   cases e
   exact⟨o,I.kIn _ o hk,hd⟩
  ·have z:∃o,s.heap.get? p=some o∧o.ExactDict:=by
    rcases hk with ⟨kvs,hk⟩|⟨kvs,hk⟩
    ·obtain⟨_,_,_,_,o,_,e,ex,_⟩:=I.hok p _ hk
     exact⟨o,e,ex⟩
    ·obtain⟨_,_,_,_,o,_,_,e,ex,_⟩:=I.hok p _ hk
     exact⟨o,e,ex⟩
   obtain⟨o,e,ex⟩:=z
   refine⟨⟨o,e,ex.1⟩,λa e2=>?_⟩
   cases e2
   exact⟨o,e,ex.2.1⟩
  ·obtain⟨o,_,_,_,e,ex,_⟩:=I.hok p _ hk
   refine⟨⟨o,e,ex.1⟩,λa e2=>?_⟩
   cases e2
   exact⟨o,e,ex.2.1⟩
 | _=>exact False.elim ty
def tBM(K:PySem.W.Frag)(T:String)(r:V→List V→Hp→VK→Prop)(to:TE)(t:TA):TE:=λσ H Q=>to σ H λx H1=>tyV K T x H1∧t σ H1 λxs H2=>r x xs H2 Q
variable{o e:Expr}{es:List Expr}{to:TE}{t:TA}{name:Str}{apos jl:Pos}{T id:String}{r:V→List V→Hp→VK→Prop}
theorem Of(pa:PlainAttrs T)(slot:Slot T name id)(hty:typeOf (.builtin id)=pure (.type "method_descriptor"))(hm:MtR X id r)(ho:PE X o to)(ha:PA X (e::es) t)
  (pA:attributeBase o name X.env (eval o X.env)=eval o X.env:=by rfl)
  (LK:((backTo jl (starEach (e::es) X.env)).all (λx=>!x.1) && (backToKw jl (keywordEach [] X.env)).all (λx=>x.1.isSome)
   && decide ((e::es).length+([]:List Keyword).length+(if ([]:List Keyword).isEmpty then 0 else 1)<30))=true:=by rfl)
  (sV:(apos.endLine==jl.line)=true:=by rfl) (hs:starEach (e::es) X.env=(false,eval e X.env)::starEach es X.env:=by rfl) (LL:(backTo jl (starEach es X.env)).any (·.1)=false:=by rfl) :
  PE X (.Call (.Attribute o name apos) (e::es) [] jl) (tBM X.K T r to t):=by
 intro pins s σ H Q I h
 refine wpAny_Call_method_late pA LK sV rfl (thn (ho pins s σ H _ I h) λv s1 ax=>?_)
 obtain⟨x,H1,I1,r1,ty,q1⟩:=ax
 obtain⟨h1,h2⟩:=LJ I1 r1 ty
 refine⟨T,id,pa,slot,hty,h1,h2,?_⟩
 have hA:=ha jl pins s1 σ H1 _ I1 q1
 rw[hs] at hA ⊢
 refine Calls.callWith_builtin (by show (false || (backTo jl (starEach es X.env)).any (·.1))=false;rw[LL]<;>rfl) (Calls.evalArgs_plain ?_)
 exact thn hA λus s2 ⟨vs,H2,I2,r2,q2⟩=>hm pins s2 σ H2 x vs v us Q I2 r1 r2 q2
end
def MtM(X:Cx)(id:String)(r:V→List V→Hp→VK→Prop):Prop :=
 ∀(pins:List (Addr×Obj)) (s:Shared) (σ:St) (H:Hp) (x:V) (xs:List V) (v:Value) (us:List Value) (Q:VK),Inv X pins σ H s→RelV x v→Vals xs us→r x xs H Q →
  wpAny (model X.prog X.w) X.A (call (.builtin id) (v::us)) (EP X pins σ Q) X.xe s
theorem Vals.one:∀{x:V}{us:List Value},Vals [x] us→∃u,us=[u]∧RelV x u
 | _,_,.cons r .nil=>⟨_,rfl,r⟩
theorem Vals.reverse{xs:List V}{us:List Value}(h:Vals xs us):Vals xs.reverse us.reverse:=by
 induction h with
 | nil=>exact .nil
 | cons r t ih=>rw[List.reverse_cons,List.reverse_cons];exact Vals.append ih (.cons r .nil)
theorem Vals.rep{xs:List V}{us:List Value}(h:Vals xs us):∀k:Nat,Vals (List.replicate k xs).flatten (List.replicate k us).flatten
 | 0 => .nil
 | k+1=>by
  rw[List.replicate_succ,List.replicate_succ,List.flatten_cons,List.flatten_cons]
  exact Vals.append h (Vals.rep h k)
theorem foldl_rep(its:List Value):∀(k:Nat) (acc:List Value),
  List.foldl (λx1 x2=>x1++x2) acc.toArray (List.replicate k its.toArray)=(acc++(List.replicate k its).flatten).toArray
 | 0,acc=>by simp
 | k+1,acc=>by
  have e:acc.toArray++its.toArray=(acc++its).toArray:=by simp
  have e2:(acc++its)++(List.replicate k its).flatten=acc++(List.replicate (k+1) its).flatten:=by
   rw[List.replicate_succ,List.flatten_cons,List.append_assoc]
  rw[← e2,← foldl_rep its k (acc++its),← e,List.replicate_succ,List.foldl_cons]
section
variable{X:Cx}{pins:List (Addr×Obj)}{σ:St}{H:Hp}{s:Shared}{l b:Addr}{xs ys zs:List V}
theorem Inv.QP{its its':List Value}{n:Nat}{f:Array Value→Array Value}{t':Nat}(I:Inv X pins σ H s)(hH:H l=some (.lst xs))
  (e:s.heap.get? l=some { cls:=.type "list",data:=.seq its.toArray n }) (hf:f its.toArray=its'.toArray) (hv:Vals ys its') (hz:ys.length≤sizeLine) :
  Inv X pins σ (upd H l (.lst ys)) { s with heap:=s.heap.update l (Obj.mapSeq f),toks:=t' }:=by
 have q:=PySem.IsL.update e f
 rw[hf] at q
 refine I.write (x:=l) (e:=l) (by rw[hH];exact trivial) (.inl rfl) (λb' u hb hu=>(Heap.get?_update_other s.heap (Obj.mapSeq f) (Ne.symm hb)).trans hu) ⟨_,q⟩ ?_
 exact⟨hz,its',_,hv,q⟩
theorem Inv.LM{its:List Value}{t':Nat}(I:Inv X pins σ H s)(hv:Vals ys its)(hz:ys.length≤sizeLine) :
  Inv X pins σ (upd H s.heap.objs.size (.lst ys)) { s with heap:=s.heap.push { cls:=.type "list",data:=.seq its.toArray },toks:=t' } :=
 I.laid (λ_ _ q=>Heap.get?_push_of_some _ q) (Nat.le_refl _) ⟨hz,its,0,hv,Heap.get?_push_size _ rfl⟩
theorem Inv.fresh(I:Inv X pins σ H s):H s.heap.objs.size=none:=I.hok.fresh (Nat.le_refl _)
theorem Inv.Og(I:Inv X pins σ H s)(hH:H l=some (.lst xs)):xs.length≤sizeLine∧∃(its:List Value) (n:Nat),Vals xs its∧xs.length=its.length∧s.heap.get? l=some { cls:=.type "list",data:=.seq its.toArray n }:=by
 obtain⟨z,its,n,r,e⟩:=I.hok l _ hH
 exact⟨z,its,n,r,r.length,e⟩
theorem E_{n:Nat}(h:n≤sizeLine):Builtin.List.listTooLong n=false:=by
 unfold Builtin.List.listTooLong
 exact decide_eq_false (by lia)
end
section
variable{X:Cx}
def BS:V→List V→Hp→VK→Prop:=λx vs H Q=>∃l xs y,x = .ref l∧vs=[y]∧H l=some (.lst xs)∧xs.length<sizeLine∧Q .non (upd H l (.lst (xs++[y])))
theorem vX:MtM X "list.append" BS:=by
 intro pins s σ H x vs v us Q I rx rv h
 obtain⟨l,xs,y,rfl,rfl,hH,hz,q⟩:=h
 cases rx
 obtain⟨u,rfl,ru⟩:=rv.one
 obtain⟨z,its,n,r,hl,e⟩:=I.Og hH
 refine call_meets F.slot_list_append ⟨_,e,rfl⟩ F.entry_list_append (F.args_list_append_2 _ _) (PySem.list_append l its.toArray n u (by rw[List.size_toArray];lia)) ⟨e,?_⟩
 refine⟨.non,_,I.QP (its':=its++[u]) hH e (by simp) (r.append (.cons ru .nil)) ?_,rfl,q⟩
 rw[List.length_append,List.length_singleton]
 lia
def QQ:R2:=λx y H Q=>∃l k xs,x = .ref l∧y = .int k∧H l=some (.lst xs) ∧ -(2 ^ 63)≤k∧k<2 ^ 63∧xs.length*k.toNat≤sizeLine ∧
 ∀p,H p=none→Q (.ref p) (upd H p (.lst (List.replicate k.toNat xs).flatten))
theorem len_rep{α:Type}(xs:List α)(k:Nat):(List.replicate k xs).flatten.length=k*xs.length:=by
 induction k with
 | zero=>simp
 | succ k ih=>rw[List.replicate_succ,List.flatten_cons,List.length_append,ih,Nat.succ_mul,Nat.add_comm]
theorem LN:OpR X (binaryOp .Mult) QQ:=by
 intro pins s σ H x y v u Q I rx ry h
 obtain⟨l,k,xs,rfl,rfl,hH,h1,h2,hz,q⟩:=h
 cases rx
 obtain⟨t,rfl⟩:=ry
 obtain⟨z,its,n,r,hl,e⟩:=I.Og hH
 have hlen:its.toArray.size*k.toNat≤sizeLine:=by rw[List.size_toArray,← hl];exact hz
 have QR:¬ its.toArray.size*k.toNat > (2 ^ 63-1) / 8:=by
  have:(sizeLine:Nat)≤(2 ^ 63-1) / 8:=by decide
  lia
 have QS:¬ (!Builtin.List.listFitsIndex k)=true:=by
  rw[fitsIndex_both h1 h2]
  exact Bool.false_ne_true
 have Oh:¬ Builtin.List.listTooLong (its.toArray.size*k.toNat)=true:=by
  rw[E_ hlen]
  exact Bool.false_ne_true
 have QT:List.foldl (λx1 x2=>x1++x2) #[] (List.replicate (if its.toArray.isEmpty=true then 0 else k.toNat) its.toArray)=(List.replicate k.toNat its).flatten.toArray:=by
  have f0:∀m:Nat,List.foldl (λx1 x2=>x1++x2) #[] (List.replicate m its.toArray)=(List.replicate m its).flatten.toArray:=λm=>by
   have:=foldl_rep its m []
   rw[List.nil_append] at this
   exact this
  rw[f0]
  cases its with
  | nil=>simp
  | cons a r'=>rw[if_neg (by simp)]
 refine wpAny_binaryOp_repeat_ref (T:="list") (U:="int") (by decide) ⟨_,e,rfl⟩ (λs'=>typeIs_int s' k t) noFill_list_mul F.fills_int_mul F.slot_int_rmul repeat_list F.slot_int_index.lookup
  (call_meets F.slot_int_rmul (typeIs_int s k t) F.entry_int_rmul (F.args_int_rmul_2 _ _) (int___rmul___int_list k t l its.toArray n)
   ⟨e,rfl,⟨_,e,rfl⟩,call_meets F.slot_list_mul ⟨_,e,rfl⟩ F.entry_list_mul (F.args_list_mul_2 _ _) (AutoListH.list___mul___list_int_3 l its.toArray n k t QS QR Oh) ⟨e,?_⟩⟩)
 rw[QT]
 exact⟨.ref _,_,I.LM (t':=s.toks) (r.rep k.toNat) (by rw[len_rep,Nat.mul_comm];exact hz),rfl,q _ I.fresh⟩
end
section
variable{κ:Type}[DecidableEq κ]
def nU(kvs:List (κ×V))(k:κ):Option V:=(kvs.find? λkv=>decide (kv.1=k)).map (·.2)
def putK(kvs:List (κ×V))(k:κ)(v:V):List (κ×V) :=
 if (kvs.any λkv=>decide (kv.1=k))=true then kvs.map (λkv=>if kv.1=k then (kv.1,v) else kv) else kvs++[(k,v)]
theorem pB{p:κ×V}{r:List (κ×V)}{k:κ}(e:p.1=k):nU (p::r) k=some p.2:=by simp[nU,List.find?_cons,e]
theorem pC{p:κ×V}{r:List (κ×V)}{k:κ}(e:¬ p.1=k):nU (p::r) k=nU r k:=by simp[nU,List.find?_cons,e]
theorem yJ(k:κ):∀kvs:List (κ×V),(kvs.any λkv=>decide (kv.1=k))=(nU kvs k).isSome
 | []=>rfl
 | p::r=>by
  rw[List.any_cons]
  by_cases e:p.1=k
  ·simp only[pB e,decide_eq_true e,Bool.true_or,Option.isSome_some]
  ·rw[pC e,decide_eq_false e,Bool.false_or];exact yJ k r
theorem rE(kvs:List (κ×V))(k:κ)(v:V):(putK kvs k v).length≤kvs.length+1:=by
 unfold putK
 split
 ·rw[List.length_map];lia
 ·rw[List.length_append,List.length_cons,List.length_nil];lia
theorem rR.ql{o:Option V}{u:Option Value}(r:rR o u):o.isSome=u.isSome:=by
 cases o with
 | none=>cases u with
  | none=>rfl
  | some _=>exact (show False from r).elim
 | some _=>cases u with
  | none=>exact (show False from r).elim
  | some _=>rfl
theorem rR.getD{o:Option V}{u:Option Value}{d:V}{d':Value}(r:rR o u)(rd:RelV d d'):RelV (o.getD d) (u.getD d'):=by
 cases o with
 | none=>cases u with
  | none=>exact rd
  | some _=>exact (show False from r).elim
 | some _=>cases u with
  | none=>exact (show False from r).elim
  | some _=>exact r
theorem KV.val{kvs:List (κ×V)}{vs:List (κ×Value)}(r:KV kvs vs)(k:κ):rR (nU kvs k) (valueAt vs k):=by
 unfold KV at r
 induction r with
 | nil=>exact True.intro
 | @cons p q ps qs h t ih =>
  obtain⟨h1,h2⟩:=h
  by_cases e:p.1=k
  ·have e':q.1=k:=h1.symm.trans e
   have b:valueAt (q::qs) k=some q.2:=by simp[valueAt,List.find?_cons,e']
   rw[pB e,b];exact h2
  ·have e':¬ q.1=k:=λz=>e (h1.trans z)
   have b:valueAt (q::qs) k=valueAt qs k:=by simp[valueAt,List.find?_cons,e']
   rw[pC e,b];exact ih
theorem KV.any{kvs:List (κ×V)}{vs:List (κ×Value)}(r:KV kvs vs)(k:κ):(kvs.any λkv=>decide (kv.1=k))=vs.any λkv=>decide (kv.1=k):=by
 unfold KV at r
 induction r with
 | nil=>rfl
 | cons h t ih=>rw[List.any_cons,List.any_cons,ih,h.1]
theorem KV.Ay{kvs:List (κ×V)}{vs:List (κ×Value)}(r:KV kvs vs)(k:κ){y:V}{u:Value}(ry:RelV y u) :
  KV (kvs.map λkv=>if kv.1=k then (kv.1,y) else kv) (vs.map λkv=>if kv.1=k then (kv.1,u) else kv):=by
 unfold KV at r ⊢
 induction r with
 | nil=>exact .nil
 | @cons p q ps qs h t ih =>
  rw[List.map_cons,List.map_cons]
  refine .cons ?_ ih
  obtain⟨h1,h2⟩:=h
  by_cases e:p.1=k
  ·rw[if_pos e,if_pos (h1.symm.trans e)];exact⟨h1,ry⟩
  ·rw[if_neg e,if_neg (λz=>e (h1.trans z))];exact⟨h1,h2⟩
theorem KV.put{kvs:List (κ×V)}{vs:List (κ×Value)}(r:KV kvs vs)(k:κ){y:V}{u:Value}(ry:RelV y u):KV (putK kvs k y) (stored vs k u):=by
 unfold putK stored
 rw[r.any k]
 by_cases e:(vs.any λkv=>decide (kv.1=k))=true
 ·rw[if_pos e,if_pos e];exact r.Ay k ry
 ·rw[if_neg e,if_neg e];exact Paired.snoc r ⟨rfl,ry⟩
theorem KV.length{kvs:List (κ×V)}{vs:List (κ×Value)}(r:KV kvs vs):kvs.length=vs.length:=Paired.length r
end
theorem BU{P:Program}{w:World}{k:Key}{u:Value}(r:RelV (kV k) u):(dO P w).is k u=true:=by
 cases k with
 | inl i=>obtain⟨t,e⟩:=(show ∃t,u=Value.int i t from r);subst e;exact yA P w i t
 | inr x=>obtain⟨t,e⟩:=(show ∃t,u=Value.str x t from r);subst e;exact yB P w x t
theorem vY{P:Program}{w:World}:∀{ks:List Key}{us:List Value},Vals (ks.map kV) us→ItemsAre (dO P w) ks us
 | [],_,r=>by rw[List.map_nil] at r;cases r;exact .nil
 | k::ks,_,r=>by
  rw[List.map_cons] at r
  cases r with
  | cons h t=>exact .cons (BU h) (vY t)
noncomputable abbrev KT (H : Hp) : List (List Key × V) → List (List Key × Addr × Value) → Prop := Paired fun p q => p.1 = q.1 ∧ H q.2.1 = some (.tup (p.1.map kV)) ∧ RelV p.2 q.2.2
theorem KT.val{H:Hp}{kvs:List (List Key×V)}{xs:List (List Key×Addr×Value)}(r:KT H kvs xs)(k:List Key):rR (nU kvs k) ((atKey xs k).map (·.2)):=by
 induction r with
 | nil=>exact True.intro
 | @cons p q ps qs h t ih =>
  obtain⟨h1,_,h2⟩:=h
  by_cases e:p.1=k
  ·have e':q.1=k:=h1.symm.trans e
   have b:atKey (q::qs) k=some q.2:=by simp[atKey,List.find?_cons,e']
   rw[pB e,b];exact h2
  ·have e':¬ q.1=k:=λz=>e (h1.trans z)
   have b:atKey (q::qs) k=atKey qs k:=by simp[atKey,List.find?_cons,e']
   rw[pC e,b];exact ih
theorem KT.Ay{H:Hp}{kvs:List (List Key×V)}{xs:List (List Key×Addr×Value)}(r:KT H kvs xs)(k:List Key){y:V}{u:Value}(ry:RelV y u) :
  KT H (kvs.map λkv=>if kv.1=k then (kv.1,y) else kv) (xs.map (putAt k u)):=by
 induction r with
 | nil=>exact .nil
 | @cons p q ps qs h t ih =>
  rw[List.map_cons,List.map_cons]
  refine .cons ?_ ih
  obtain⟨h1,h2,h3⟩:=h
  unfold putAt
  by_cases e:p.1=k
  ·rw[if_pos e,if_pos (h1.symm.trans e)];exact⟨h1,h2,ry⟩
  ·rw[if_neg e,if_neg (λz=>e (h1.trans z))];exact⟨h1,h2,h3⟩
theorem KT.put{H:Hp}{kvs:List (List Key×V)}{xs:List (List Key×Addr×Value)}(r:KT H kvs xs)(k:List Key){b:Addr}{y:V}{u:Value}(hb:H b=some (.tup (k.map kV)))(ry:RelV y u) :
  KT H (putK kvs k y) (storedH xs k b u):=by
 have e:(kvs.any λkv=>decide (kv.1=k))=(atKey xs k).isSome:=by
  rw[yJ,(r.val k).ql,Option.isSome_map]
 unfold putK storedH
 rw[e]
 by_cases q:(atKey xs k).isSome=true
 ·rw[if_pos q,if_pos q];exact r.Ay k ry
 ·rw[if_neg q,if_neg q];exact Paired.snoc r ⟨rfl,hb,ry⟩
theorem KT.keeps{H H':Hp}{kvs:List (List Key×V)}{xs:List (List Key×Addr×Value)}(r:KT H kvs xs)(ht:∀b ys,H b=some (.tup ys)→H' b=some (.tup ys)):KT H' kvs xs :=
 Paired.HW r λ_ _ z=>⟨z.1,ht _ _ z.2.1,z.2.2⟩
section
variable{P:Program}{w:World}{H:Hp}{h:Heap}{a:Addr}
theorem Fb{u:HO}(ok:HOk P w H h)(e:Rd H a u):dI P w H h a u:=e.ok ok
theorem BV{kvs:List (Key×V)}(ok:HOk P w H h)(e:Rd H a (.dK kvs)):kvs.length≤sizeLine∧(a==sysModules)=false∧∃vs,KV kvs vs∧h.DictOf (dO P w) a vs :=
 let ⟨z,y,vs,r,d⟩:=(show dI P w H h a (.dK kvs) from Fb ok e);⟨z,y,vs,r,d.dictOf⟩
theorem yK{kvs:List (Key×V)}(ok:HOk P w H h)(e:Rd H a (.dK kvs)):kvs.length≤sizeLine∧(a==sysModules)=false∧∃vs,KV kvs vs∧h.DictAt (dO P w) a vs vs.length :=
 show dI P w H h a (.dK kvs) from Fb ok e
theorem w6{ks:List Key}(ok:HOk P w H h)(e:H a=some (.tup (ks.map kV))):(tupleKind (dO P w)).is h ks a:=by
 obtain⟨_,its,r,o,h1,h2,n,h3⟩:=(show dI P w H h a (.tup (ks.map kV)) from ok a _ e)
 exact⟨o,its.toArray,n,h1,h2,h3,by simpa using vY r⟩
theorem BW{kvs:List (List Key×V)}(ok:HOk P w H h)(e:Rd H a (.dT kvs)):kvs.length≤sizeLine∧(a==sysModules)=false ∧
  ∃xs,KT H kvs xs∧h.DictOfH (tupleKind (dO P w)) a xs:=by
 obtain⟨z,y,xs,r,o,es,ep,h1,h2,h3,h4,h5⟩:=(show dI P w H h a (.dT kvs) from Fb ok e)
 refine⟨z,y,xs,r,o,es,ep,h1,h2,h3,h4,λx hx=>?_,h5⟩
 have all:∀{l:List (List Key×V)}{m:List (List Key×Addr×Value)},KT H l m→∀x∈m,(tupleKind (dO P w)).is h x.1 x.2.1:=by
  intro l m q
  induction q with
  | nil=>intro x hx;exact nomatch hx
  | @cons p q ps qs hq t ih =>
   intro x hx
   rcases List.mem_cons.mp hx with e|hx
   ·subst e
    exact w6 ok (by rw[← hq.1];exact hq.2.1)
   ·exact ih x hx
 exact all r x hx
theorem Oi{kvs:List (List Key×V)}(ok:HOk P w H h)(e:H a=some (.dT kvs)):kvs.length≤sizeLine∧(a==sysModules)=false ∧
  ∃xs,KT H kvs xs∧h.DictOfH (tupleKind (dO P w)) a xs:=BW ok (.inl e)
end
def sW(H:Hp)(a:Addr)(y:V)(r:Option V):Prop :=
 (∃kvs k,Rd H a (.dK kvs)∧y=kV k∧r=nU kvs k)∨∃kvs k b,Rd H a (.dT kvs)∧y = .ref b∧H b=some (.tup (k.map kV))∧r=nU kvs k
def Az(H:Hp)(a:Addr)(y v:V)(H':Hp):Prop :=
 (∃kvs k,H a=some (.dK kvs)∧y=kV k∧kvs.length<sizeLine∧H'=upd H a (.dK (putK kvs k v))) ∨
 ∃kvs k b,H a=some (.dT kvs)∧y = .ref b∧H b=some (.tup (k.map kV))∧kvs.length<sizeLine∧H'=upd H a (.dT (putK kvs k v))
theorem sW.k{H:Hp}{a:Addr}{kvs:List (Key×V)}{k:Key}(e:H a=some (.dK kvs)):sW H a (kV k) (nU kvs k):=.inl ⟨kvs,k,.inl e,rfl,rfl⟩
theorem sW.t{H:Hp}{a b:Addr}{kvs:List (List Key×V)}{k:List Key}(e:H a=some (.dT kvs))(eb:H b=some (.tup (k.map kV))):sW H a (.ref b) (nU kvs k):=.inr ⟨kvs,k,b,.inl e,rfl,eb,rfl⟩
theorem Az.k{H:Hp}{a:Addr}{kvs:List (Key×V)}{k:Key}{v:V}(e:H a=some (.dK kvs))(hl:kvs.length<sizeLine):Az H a (kV k) v (upd H a (.dK (putK kvs k v))):=.inl ⟨kvs,k,e,rfl,hl,rfl⟩
theorem Az.t{H:Hp}{a b:Addr}{kvs:List (List Key×V)}{k:List Key}{v:V}(e:H a=some (.dT kvs))(eb:H b=some (.tup (k.map kV)))(hl:kvs.length<sizeLine) :
  Az H a (.ref b) v (upd H a (.dT (putK kvs k v))):=.inr ⟨kvs,k,b,e,rfl,eb,hl,rfl⟩
section
variable{X:Cx}{pins:List (Addr×Obj)}{σ:St}{H:Hp}{s:Shared}{a:Addr}{y v:V}{u r:Value}{o:Option V}{A:Around}{E:Value→Shared→Prop}
theorem Inv.big(I:Inv X pins σ H s):sysModules<s.heap.objs.size:=by
 have h:mainGlobals<s.heap.objs.size:=(I.mod.glob.keeps I.bk).lt
 exact Nat.lt_trans (by decide) h
theorem Dc{Q:Value→Shared→Prop}(hu:A.units+1<cLine)(I:Inv X pins σ H s)(g:sW H a y (some v))(ry:RelV y u)(h:∀w' s',Inv X pins σ H s'→RelV v w'→Q w' s') :
  wpAny (model X.prog X.w) A (getItem (.ref a) u) Q E s:=by
 rcases g with ⟨kvs,k,e,ey,l⟩|⟨kvs,k,b,e,ey,eb,l⟩
 ·subst ey
  obtain⟨z,hd,vs,rel,dd⟩:=BV I.hok e
  obtain⟨w',hw,rw'⟩:=rR.some_of (v:=v) (o:=valueAt vs k) (by rw[l];exact rel.val k)
  exact wpAny_getItem_of (BU ry) dd.mapOf hw (h w' _ (I.tok _) rw')
 ·subst ey
  cases (show u=Value.ref b from ry)
  obtain⟨z,hd,xs,rel,dd⟩:=BW I.hok e
  obtain⟨w',hw,rw'⟩:=rR.some_of (v:=v) (o:=(atKey xs k).map (·.2)) (by rw[l];exact rel.val k)
  obtain⟨p,hp,hp2⟩:=Option.map_eq_some_iff.mp hw
  refine wpAny_getItem_heap (tupleKind_room_in1 hu) (w6 I.hok eb) dd hp ?_
  rw[hp2]
  exact h w' _ (I.tok _) rw'
theorem Io{Q:Value→Shared→Prop}(hu:A.units+1<cLine)(I:Inv X pins σ H s)(g:sW H a y o)(ry:RelV y u)(h:∀s',Inv X pins σ H s'→Q (.bool (!o.isSome)) s') :
  wpAny (model X.prog X.w) A (compareOp .NotIn u (.ref a)) Q E s:=by
 rcases g with ⟨kvs,k,e,ey,l⟩|⟨kvs,k,b,e,ey,eb,l⟩
 ·subst ey
  obtain⟨z,hd,vs,rel,dd⟩:=BV I.hok e
  refine wpAny_notIn_of (BU ry) hd dd.mapOf ?_
  rw[← (rel.val k).ql,← l]
  exact h _ (I.tok _)
 ·subst ey
  cases (show u=Value.ref b from ry)
  obtain⟨z,hd,xs,rel,dd⟩:=BW I.hok e
  refine wpAny_notIn_heap (tupleKind_room_in1 hu) (w6 I.hok eb) hd dd ?_
  have q:=(rel.val k).ql
  rw[Option.isSome_map] at q
  rw[← q,← l]
  exact h _ (I.tok _)
theorem BX{h':Heap}{t':Nat}{ob:HO}(I:Inv X pins σ H s)(mu:Mut (H a))(hs:Heap.SameBut a s.heap h')(he:∃q,h'.get? a=some q)(new:dI X.prog X.w (upd H a ob) h' a ob) :
  Inv X pins σ (upd H a ob) { s with heap:=h',toks:=t' } :=
 I.write (x:=a) (e:=a) mu (.inl rfl) (λb q hb z=>(hs.2 b hb).trans z) he new
theorem LO{P:Program}{w:World}{H':Hp}{h':Heap}{kvs:List (Key×V)}{vs:List (Key×Value)}(z:kvs.length≤sizeLine)(hd:(a==sysModules)=false)(rel:KV kvs vs)(dd:h'.DictAt (dO P w) a vs vs.length) :
  dI P w H' h' a (.dK kvs):=⟨z,hd,vs,rel,dd⟩
theorem AA {P : Program} {w : World} {κ : Type} [DecidableEq κ] {knd : KeyKind P w κ} {A : Around} {E : Value → Shared → Prop} {s : Shared} {d : Addr} {kvs : List (κ × Value)} {k : κ} {key v : Value} {Q : Unit → Shared → Prop} (Dd : knd.is k key = true) (hm : s.heap.DictAt knd d kvs kvs.length)
    (hsz : kvs.length ≤ sizeLine) (hQ : ∀ h', h'.DictAt knd d (stored kvs k v) (stored kvs k v).length → Heap.SameBut d s.heap h' → Q () { s with heap := h', toks := s.toks + 1 }) :
    wpAny (model P w) A (dictSet d key v) Q E s := by
  obtain ⟨o, es, ho, hc, hd, hk, hp, hn⟩ := hm
  have hes : es.size ≤ sizeLine := by have e1 := hp.length; have e2 : es.toList.length = es.size := by simp
                                      lia
  unfold dictSet
  try with_reducible refine wpAny_holding ?_
  refine wpAny_bind (knd.pyHash Dd ?_)
  unfold dictSetHashed
  try with_reducible refine wpAny_holding ?_
  refine wpAny_bind (wpAny_dictFind_of (s := { s with toks := s.toks + 1 }) Dd ho hd hk ?_)
  have De : (es.findIdx? fun e => knd.is k e.key) = kvs.findIdx? fun kv => decide (kv.1 = k) := by
    rw [← hp.findIdx k]; obtain ⟨l⟩ := es; simp
  cases hi : es.findIdx? fun e => knd.is k e.key with
  | some i =>
    have hst : stored kvs k v = kvs.map fun kv => if kv.1 = k then (kv.1, v) else kv := by rw [stored, if_pos (any_of_findIdx_some (De ▸ hi))]
    have hlen : kvs.length = (stored kvs k v).length := by rw [hst, List.length_map]
    refine wpAny_bind (wpAny_rule (wpAny_bind (wpAny_updateDict (s := { s with toks := s.toks + 1 }) ho hd (wpAny_point (hQ _ ⟨_, _, Heap.get?_update_self _ ho (Obj.isFreed_of_dict (Obj.data_mapDict hd _)),
      hc.mapDict _, (Obj.data_mapDict hd _).trans (congrArg (fun n => Data.dict _ n) hlen), hk.modify _ _, ?_, ?_⟩ (Heap.SameBut.update ..))))))
    · rw [stored, if_pos (any_of_findIdx_some (De ▸ hi))]
      have hl : (es.toList.findIdx? fun e => knd.is k e.key) = some i := by rw [← hi]; obtain ⟨l⟩ := es; simp
      have := hp.modify hn hl v
      obtain ⟨l⟩ := es
      simpa using this
    · rw [stored, if_pos (any_of_findIdx_some (De ▸ hi)), keys_map_store]; exact hn
  | none =>
    have Oj : k ∉ kvs.map (·.1) := not_mem_of_findIdx_none (De ▸ hi)
    have LP : ¬ (kvs.any fun kv => decide (kv.1 = k)) = true := by
      rw [List.any_eq_true]; rintro ⟨kv, hkv, he⟩
      exact Oj (List.mem_map.mpr ⟨kv, hkv, of_decide_eq_true he⟩)
    have hst : stored kvs k v = kvs ++ [(k, v)] := by rw [stored, if_neg LP]
    have hlen : kvs.length + 1 = (stored kvs k v).length := by rw [hst, List.length_append]; rfl
    refine wpAny_bind (wpAny_rule (wpAny_updateDictKeys (hz := hes) (s := { s with toks := s.toks + 1 }) ho hd (hQ _ ⟨_, _, Heap.get?_update_self _ ho (Obj.isFreed_of_dict (Obj.data_mapDictKeys hd _)),
      hc.mapDictKeys _, (Obj.data_mapDictKeys hd _).trans (congrArg (fun n => Data.dict _ n) hlen), hk.push Dd _, ?_, ?_⟩ (Heap.SameBut.update ..))))
    · rw [stored, if_neg LP]
      have := hp.append Dd (knd.hash k) v
      obtain ⟨l⟩ := es
      simpa using this
    · rw [stored, if_neg LP, List.map_append, List.nodup_append]
      refine ⟨hn, by simp, ?_⟩
      intro a ha b hb
      simp only [List.map_cons, List.map_nil, List.mem_singleton] at hb
      subst hb
      exact fun e => Oj (e ▸ ha)
theorem AB{P:Program}{w:World}{κ:Type}[DecidableEq κ]{knd:KeyKind P w κ}{A:Around}{E:Value→Shared→Prop}{s:Shared}{d:Addr}{kvs:List (κ×Value)}{k:κ}{key v:Value}{Q:Unit→Shared→Prop}(Dd:knd.is k key=true)(hm:s.heap.DictAt knd d kvs kvs.length)
  (hsz:kvs.length≤sizeLine) (hQ:∀h',h'.DictAt knd d (stored kvs k v) (stored kvs k v).length→Heap.SameBut d s.heap h'→Q () { s with heap:=h',toks:=s.toks+1 }) :
  wpAny (model P w) A (setItem (.ref d) key v) Q E s:=by
 have hT:=hm.dictOf.typeIs
 unfold setItem
 try with_reducible refine wpAny_holding ?_
 refine wpAny_bind (wpAny_sequenceKey hT (by decide) ?_)
 refine wpAny_bind (wpAny_callSpecial?_slot (name:=Str.ofString "__setitem__") hT slot_dict_setitem
  (wpAny_call_entry slot_dict_setitem hT entry_dict_setitem ?_ (args_dict_setitem _ _ _)))
 show wpAny _ _ (Builtin.Dict.notOrdered "__setitem__" ⟨[.ref d,key,v],[]⟩>>=_) _ _ s
 refine wpAny_bind (wpAny_notOrdered_dict hT ?_)
 show wpAny _ _ (dictSet d key v>>=_) _ _ s
 exact wpAny_bind (AA Dd hm hsz λh' hm' hs'=>wpAny_pure ⟨.none,rfl,wpAny_pure (hQ h' hm' hs')⟩)
theorem Df{H':Hp}{Q:Unit→Shared→Prop}(hu:A.units+1<cLine)(I:Inv X pins σ H s)(g:Az H a y v H')(ry:RelV y u)(rv:RelV v r)(h:∀s',Inv X pins σ H' s'→Q () s') :
  wpAny (model X.prog X.w) A (setItem (.ref a) u r) Q E s:=by
 rcases g with ⟨kvs,k,e,ey,l,eH⟩|⟨kvs,k,b,e,ey,eb,l,eH⟩
 ·subst ey eH
  obtain⟨z,hd,vs,rel,dd⟩:=yK I.hok (.inl e)
  have hz:vs.length≤sizeLine:=by rw[← rel.length];exact z
  have hl:(putK kvs k v).length≤sizeLine:=by have:=rE kvs k v;lia
  refine AB (BU ry) dd hz λh' dd' hs=>h _ ?_
  have he:∃q,h'.get? a=some q:=let ⟨q,_,hq,_⟩:=dd';⟨q,hq⟩
  exact BX I (by rw[e];exact True.intro) hs he (LO hl hd (rel.put k rv) dd')
 ·subst ey eH
  cases (show u=Value.ref b from ry)
  obtain⟨z,hd,xs,rel,dd⟩:=Oi I.hok e
  have hz:xs.length≤sizeLine:=by rw[← Paired.length rel];exact z
  have hl:(putK kvs k v).length≤sizeLine:=by have:=rE kvs k v;lia
  refine wpAny_setItem_heap (hsz:=hz) (tupleKind_room_in1 hu) (w6 I.hok eb) dd λh' dd' hs=>h _ ?_
  obtain⟨q,es,ep,hq,h2,h3,h4,_,h5⟩:=dd'
  refine BX I (by rw[e];exact True.intro) hs ⟨q,hq⟩ ⟨hl,hd,_,(rel.put k eb rv).keeps λc ys ec=>?_,q,es,ep,hq,h2,h3,h4,h5⟩
  rw[aQ (NO ec e (λz=>nomatch z))]
  exact ec
end
section
variable{X:Cx}{pins:List (Addr×Obj)}{σ:St}{H:Hp}{s:Shared}{a:Addr}{kvs:List (Key×V)}{k:Key}{u:Value}{A:Around}{E:Value→Shared→Prop}
theorem Ol{Q:Value→Shared→Prop}(I:Inv X pins σ H s)(e:Rd H a (.dK kvs))(h:∀t s',Inv X pins σ H s'→Q (.int kvs.length t) s'):wpAny (model X.prog X.w) A (call (.builtin "len") [.ref a]) Q E s:=by
 obtain⟨z,hd,vs,rel,dd⟩:=BV I.hok e
 refine call_len_dict hd dd (by rw[← rel.length];rw[sizeLine_eq] at z;lia) ?_
 rw[← rel.length]
 exact h _ _ (I.tok _)
end
def LQ(i:Expr):Prop:=∀ov iv,subscripted i false ov iv=operate [ov,iv] (getItem ov iv)
theorem Ip{prog:Program}{w:World}{A:Around}{E:Value→Shared→Prop}{s:Shared}{env:Env}{value slice:Expr}{pos:Pos}{T id:String}{Q:Value→Shared→Prop}
  (hl:typeLookup (.type T) "__getitem__"=pure (some (.builtin id))) (hs:LQ slice)
  (h:wpAny (model prog w) A (eval value env) (λo s₁=>wpAny (model prog w) A (eval slice env) (λi s₂=>s₂.TypeIs o T∧wpAny (model prog w) A (getItem o i) Q E s₂) E s₁) E s) :
  wpAny (model prog w) A (eval (.Subscript value slice pos) env) Q E s:=by
 refine Subscript_ (wpAny_mono h (λo s₁ h₁=>wpAny_mono h₁ (λi s₂ h₂=>?_) λ_ _ x=>x) λ_ _ x=>x)
 obtain⟨hT,h₂⟩:=h₂
 unfold subscriptTail
 refine wpAny_bind ?_
 rw[getitemInPython_of_ne hT.not_modules]
 refine wpAny_bind (wpAny_specialOf hT hl ?_)
 have fin:wpAny (model prog w) A (subscripted slice false o i) (λr s₃=>wpAny (model prog w) A (letTemporaryGo value o r>>=λ_=>pure r) Q E s₃) E s₂:=by
  rw[hs o i]
  exact wpAny_operating (wpAny_mono h₂ (λr s₃ h₃=>wpAny_bind (wpAny_letTemporaryGo (wpAny_pure h₃))) λ_ _ x=>x)
 first
  | exact wpAny_pure (wpAny_bind fin)
  | exact wpAny_bind (wpAny_pure (wpAny_bind fin))
  | exact wpAny_bind fin
theorem yL{X:Cx}{pins:List (Addr×Obj)}{σ:St}{H:Hp}{s:Shared}{a:Addr}{y:V}{o:Option V}(I:Inv X pins σ H s)(g:sW H a y o):s.TypeIs (.ref a) "dict":=by
 rcases g with ⟨kvs,k,e,_,_⟩|⟨kvs,k,b,e,_,_,_⟩
 ·obtain⟨_,_,vs,_,dd⟩:=BV I.hok e
  exact dd.typeIs
 ·obtain⟨_,_,xs,_,dd⟩:=BW I.hok e
  exact dd.typeIs
def Km(td ty:TE):TE:=λσ H Q=>td σ H λx H1=>ty σ H1 λy H2=>∃a v,x = .ref a∧sW H2 a y (some v)∧Q v H2
def BY(ty td:TE):TE:=λσ H Q=>ty σ H λy H1=>td σ H1 λx H2=>∃a o,x = .ref a∧sW H2 a y o∧Q (.bl (!o.isSome)) H2
def Om(td ty tv:TE):TS:=λD σ H=>tv σ H λv H1=>td σ H1 λx H2=>ty σ H2 λy H3=>∃a H4,x = .ref a∧Az H3 a y v H4∧D.nx σ H4
section
variable{X:Cx}{o i e value:Expr}{pos pos' hZ:Pos}{td ty tv:TE}
theorem Iq(hu:X.A.units+1<cLine)(ho:PE X o td)(hi:PE X i ty)(hs:LQ i):PE X (.Subscript o i pos) (Km td ty):=by
 intro pins s σ H Q I h
 refine Ip PySem.F.slot_dict_getitem.lookup hs (thn (ho pins s σ H _ I h) λu s1 ⟨x,H1,I1,rx,q1⟩=>thn (hi pins s1 σ H1 _ I1 q1) λiv s2 ax=>?_)
 obtain⟨y,H2,I2,ry,a,v,ex,g,q2⟩:=ax
 subst ex
 obtain rfl:u=Value.ref a:=rx
 exact⟨yL I2 g,Dc hu I2 g ry λw' s3 I3 rw'=>⟨v,H2,I3,rw',q2⟩⟩
theorem Dg(hu:X.A.units+1<cLine)(hi:PE X i ty)(ho:PE X o td):PC X .NotIn i o (BY ty td):=by
 intro pins s σ H Q I h
 refine thn (hi pins s σ H _ I h) λiv s1 ⟨y,H1,I1,ry,q1⟩=>thn (ho pins s1 σ H1 _ I1 q1) λu s2 ax=>?_
 obtain⟨x,H2,I2,rx,a,ov,ex,g,q2⟩:=ax
 subst ex
 obtain rfl:u=Value.ref a:=rx
 exact Io hu I2 g ry λs3 I3=>⟨.bl (!ov.isSome),H2,I3,rfl,q2⟩
theorem Ir(hu:X.A.units+1<cLine)(ho:PE X o td)(hi:PE X i ty)(hv:PE X value tv)(hs:swapsWith value (some (.Subscript o i pos')) pos.line X.env=pure false) :
  PS X (.Assign [.Subscript o i pos'] value pos) (Om td ty tv):=by
 intro pins s σ H D I h
 refine wpAny_Assign_Subscript (thn (hv pins s σ H _ I h) λr s1 ⟨v,H1,I1,rv,q1⟩=>thn (ho pins s1 σ H1 _ I1 q1) λu s2 ⟨x,H2,I2,rx,q2⟩=>thn (hi pins s2 σ H2 _ I2 q2) λiv s3 ax=>?_) hs
 obtain⟨y,H3,I3,ry,a,H4,ex,g,q3⟩:=ax
 subst ex
 obtain rfl:u=Value.ref a:=rx
 exact Df hu I3 g ry rv λs4 I4=>⟨σ,H4,I4,q3⟩
end
theorem Fc{P:Program}{w:World}{H:Hp}(h:Heap)(hb:sysModules<h.objs.size):dI P w H (h.push { cls:=.type "dict",data:=.dict #[] }) h.objs.size (.dK []) :=
 ⟨Nat.zero_le _,beq_eq_false_iff_ne.mpr (Ne.symm (Nat.ne_of_lt hb)),[],.nil,_,#[],Heap.get?_push_size _ rfl,⟨rfl,rfl,rfl⟩,rfl,λe he=>by simp at he,.nil,List.nodup_nil⟩
def LR:TE:=λ_ H Q=>∀p,H p=none→Q (.ref p) (upd H p (.dK []))
section
variable{X:Cx}{pos:Pos}
theorem Fe:PE X (.Dict [] [] pos) LR:=λpins s σ H Q I h =>
 wpAny_Dict_empty ⟨.ref s.heap.objs.size,_,I.laid (a:=s.heap.objs.size) (o:=.dK []) (t':=s.toks) (λ_ _ q=>Heap.get?_push_of_some _ q) (Nat.le_refl _) (Fc s.heap I.big),rfl,h _ (I.hok.fresh (Nat.le_refl _))⟩
end
end L2
namespace Att
open PySem PySem.W PySem.Calls PyProof.Rows
theorem rV{P:Params}{h:Heap}:∀(ns:List Int) (vs:List Value),WellAll P h vs (ns.map WData.int)→IntsAre vs ns:=by
 intro ns
 induction ns with
 | nil =>
  intro vs w
  rw[List.map_nil] at w
  cases w
  exact .nil
 | cons n ns ih =>
  intro vs w
  rw[List.map_cons] at w
  cases w with
  | cons a b =>
   cases a
   exact .cons _ _ (ih _ b)
theorem Dh{l:OpenLaw}{n:Nat}(hn:l.most=some n){P:Params}{h:Heap}{args:List WData}{vals:List Value}
  (Iu:l.row.toRowW.claim.pre args=true) (hwl:WellAll P h vals args) :
  ∃a vs ns,vals=[Value.ref a]∧args=[WData.list (ns.map WData.int)]∧h.get? a=some { cls:=.type "list",data:=.seq vs.toArray }∧IntsAre vs ns∧ns.length≤n:=by
 have hsh:WShape.hasAll [] args [.list .int]=true:=(pre_splitW Iu).1
 have hc:l.pre.holds [] { args:=args }=true:=(pre_splitW Iu).2
 obtain⟨d,r,rfl,h1,h2⟩:=hasAllW_cons hsh
 obtain rfl:=hasAllW_nil h2
 obtain⟨xs,rfl,h3⟩:=hasW_list h1
 obtain⟨ns,rfl⟩:=items_int h3
 have hlen:ns.length≤n:=by
  unfold OpenLaw.pre at hc
  have h4:(WTm.not (.lt (.lit (.int (n:Int))) (.len (.arg 0)))).holds [] { args:=[.list (ns.map .int)] }=true:=by
   have h4:=(holds_andW hc).1
   rw[hn] at h4
   exact h4
  have h5:=condW_of h4 (w_not (w_lt w_lit (w_len_list (w_arg rfl))))
  rw[List.length_map] at h5
  refine Nat.le_of_not_lt λq=>?_
  have q':(n:Int)<((ns.length:Nat):Int):=by lia
  first
   | (rw[decide_eq_true q'] at h5;exact absurd h5 (by decide))
   | (simp at h5;lia)
 cases hwl with
 | cons w1 w2 =>
  cases w2
  cases w1 with
  | list ho Ff=>exact⟨_,_,ns,rfl,rfl,ho,rV ns _ Ff,hlen⟩
theorem Di(l:OpenLaw)(args:List WData):l.row.toRowW.claim.post args (.bool true) args=true :=
 postW_of (r:=l.row.toRowW) (X:=(true==true))
  (show WShape.has [] (.bool true) .bool=true by first|rfl|decide|simp[WShape.has,WShape.arms,WShape.armsAll])
  (show (WTm.eq .res (.lit (.bool true))).value [] { args:=args,res:=some (.bool true),after:=args }=some (.bool (true==true)) from w_eq_bool (w_res rfl) w_lit) rfl
theorem yM{l:OpenLaw}{n:Nat}{q:Program}{loose:List Str}{XP:(Str→Option Value)→Heap→Prop}{YP:World→Heap→Prop}{d:DefRec}
  (hn:l.most=some n) (hdf:d.params.defaults=[])
  (call:∀(w:World) (s₀ s₁:Shared) (mg mb:Str→Option Value) (fa:Addr) (o:Obj) (pm cd doc:Value) (a:Addr) (vs:List Value) (ns:List Int),
   Ground q loose [] XP w s₀ mg mb s₁.heap→YP w s₁.heap →
   s₁.heap.get? fa=some o→o.data = .func (docDef d.name d.params d.body d.scope pm cd doc)→s₁.heap.CodeRec cd d.name→mg d.name=some (.ref fa) →
   s₁.heap.get? a=some { cls:=.type "list",data:=.seq vs.toArray }→IntsAre vs ns→ns.length≤n→s₁.gens=#[] →
   codeAny (model l.prog w) callerA (.call (.ref fa) ⟨[.ref a],[]⟩) (λr s'=>r = .ok (.ret (.bool true))∧OldK s₁.heap s'.heap∧s'.os=s₁.os∧AllBare s'.gens) s₁) :
  WalkO q loose XP YP l.row.toRowW d [] (λf vs=>PySem.call f vs):=by
 intro w s₀ s₁ mg mb G Y fa o pm cd doc dV kV ho hd hcd hD hmg hg args vals as Iu VO hrd hwl hlo
 obtain rfl:dV = .none:=Dflts.none hD hdf
 obtain rfl:kV = .none:=Dflts.noKw hD
 obtain⟨a,vs,ns,rfl,rfl,LS,hints,hlen⟩:=Dh hn Iu hwl
 refine enter_call (codeAny_mono (call w s₀ s₁ mg mb fa o pm cd doc a vs ns G Y ho (fd_plain hd) hcd hmg LS hints hlen hg) λr s' hq=>?_)
 obtain⟨rfl,h2,h3,h4⟩:=hq
 exact⟨.inl ⟨.bool true,.bool true,[],rfl,λ_=>rfl,.bool true,Di l _,λ_=>⟨List.Pairwise.nil,λ_ hm=>(nomatch hm)⟩⟩,h2,h3,h4⟩
end Att
namespace L2
open PySem PySem.Spec PyProof.Rows
theorem vZ:∀{vs:List Value}{ns:List Int},IntsAre vs ns→Vals (ns.map V.int) vs
 | _,_,.nil => .nil
 | _,_,.cons n t h => .cons ⟨t,rfl⟩ (vZ h)
def LU(H:Hp):Prop:=∀b,H b=none∨∃o xs,H b=some (.frz o (.lst xs))
theorem Fg{P:Program}{w:World}{K:PySem.W.Frag}{mg mb:Str→Option Value}{CX:CXT}{k:Nat}{fa a:Addr}{fd:FuncData}{x:Str}{sp:Sp}{s₁:Shared}{vs:List Value}{ns:List Int}
  (KX:K.In s₁.heap) (hns:s₁.heap.Ns mainGlobals mg) (hb:s₁.heap.Ns builtinsNs mb) (hbb:∀x:Str,x≠"__name__"→mb x=bootBuiltins x) (QU:s₁.heap.NoLimit) (hg:s₁.gens=#[])
  (ha:s₁.heap.get? a=some { cls:=.type "list",data:=.seq vs.toArray }) (hi:IntsAre vs ns) (hl:ns.length≤sizeLine) (hr:eS k callerA)
  (F:∀base:Heap,K.In base→base.Ns mainGlobals mg→aP P w K mg base CX k fa fd [x] sp) (Oo:∀(s:Shared) (u:Value),BindsTo s fd ⟨[u],[]⟩ [(x,u)])
  (hsp:∀H:Hp,LU H→SqL K H a (ns.map V.int)→sp [.ref a] H (λv _=>v = .bl true) λ_ _ _=>False)
  (hCX:∀H e s',CX [] H s₁ (λ_ _ _=>False) e s'→False) :
  codeAny (model P w) callerA (.call (.ref fa) ⟨[.ref a],[]⟩) (λr s'=>r = .ok (.ret (.bool true))∧OldK s₁.heap s'.heap∧s'.os=s₁.os∧AllBare s'.gens) s₁:=by
 have rv:=vZ hi
 have QV:=hi.length
 have core:∀H:Hp,LU H→SqL K H a (ns.map V.int)→HOk P w H s₁.heap→(∀b,H b≠none→b=a)→(H a≠none→K.lookup a=none) →
   codeAny (model P w) callerA (.call (.ref fa) ⟨[.ref a],[]⟩) (λr s'=>r = .ok (.ret (.bool true))∧OldK s₁.heap s'.heap∧s'.os=s₁.os∧AllBare s'.gens) s₁:=by
  intro H hO hS hok hA hK
  have BZ:∀{b:Addr}{o:Obj},s₁.heap.get? b=some o→H b=none→(wN s₁.heap H).get? b=some o:=λe n=>EN e n
  have noA:∀{b:Addr}{o:Obj}{es:Array DictEntry}{ep:Nat},s₁.heap.get? b=some o→o.data = .dict es ep→H b=none:=λ{b o es ep} e d=>by
   cases q:H b with
   | none=>rfl
   | some u =>
    have e':b=a:=hA b (by rw[q];simp)
    subst e'
    rw[ha] at e;cases e
    have d':Data.seq vs.toArray _=Data.dict es ep:=d
    cases d'
  have nsK:∀{b:Addr}{m:Str→Option Value},s₁.heap.Ns b m→(wN s₁.heap H).Ns b m:=λ{b m} ⟨o,es,ep,e,d,r⟩=>⟨o,es,ep,BZ e (noA e d),d,r⟩
  have hKb:K.In (wN s₁.heap H):=λb o e=>BZ (KX b o e) (by
   cases q:H b with
   | none=>rfl
   | some u =>
    have e':b=a:=hA b (by rw[q];simp)
    subst e'
    rw[hK (by rw[q];simp)] at e;cases e)
  have hM:Mod K mg (wN s₁.heap H):=⟨hKb,nsK hns,⟨mb,nsK hb,hbb⟩,let ⟨mc,h1,h2⟩:=QU;⟨mc,nsK h1,h2⟩⟩
  have e0:Au P w K mg (wN s₁.heap H) callerA [] s₁ H:=⟨rfl,hM,λb o e=>HX e,Nat.le_of_eq (C4 _ _),trivial,λb hb=>absurd (show b∈([]:List Addr) from hb) (by simp),hok,.of_eq hg⟩
  refine codeAny_mono ((F _ hKb (nsK hns)).run callerA [] s₁ H ⟨[.ref a],[]⟩ [.ref a] [.ref a] _ _ hr e0 (Oo s₁ (.ref a)) (.cons rfl .nil) (hsp H hO hS)) λr s' h=>?_
  cases r with
  | error e=>exact (hCX H e s' h).elim
  | ok fl =>
   cases fl with
   | next=>exact False.elim h
   | brk=>exact False.elim h
   | cont=>exact False.elim h
   | ret u =>
    obtain⟨v,H',os,bare,un,QW,r',q⟩:=h
    have q':v = .bl true:=q
    subst q'
    obtain rfl:u=Value.bool true:=r'
    refine⟨rfl,OldK.of_keep λb o e=>?_,os,bare⟩
    cases q:H b with
    | none=>exact un.keep b o e q (by intro z;exact absurd (show b∈([]:List Addr) from z) (by simp)) (by simp)
    | some u =>
     rcases hO b with z|⟨ob,xs,z⟩
     ·rw[q] at z;cases z
     ·have z2:=un.eJ b ob _ z
      obtain⟨e1,_⟩:=hok b _ z
      obtain⟨e2,_⟩:=QW b _ z2
      rw[e] at e1;cases e1
      exact e2
 cases hk:K.lookup a with
 | some o =>
  have e:=KX a o hk
  rw[ha] at e
  cases e
  refine core (λ_=>none) (λ_ => .inl rfl) (.inr ⟨_,vs.toArray,_,hk,rfl,rfl,rfl,by rw[List.size_toArray,QV];exact hl,by simpa using rv⟩) (λb u z=>by have z':(none:Option HO)=some u:=z;cases z') (λb z=>absurd rfl z) λz=>absurd rfl z
 | none =>
  refine core (λb=>if b=a then some (.frz { cls:=.type "list",data:=.seq vs.toArray } (.lst (ns.map V.int))) else none) (λb=>?_) (.inl (.inr ⟨{ cls:=.type "list",data:=.seq vs.toArray },if_pos rfl⟩)) (λb u z=>?_) (λb z=>?_) λ_=>hk
  ·by_cases hb:b=a
   ·exact .inr ⟨_,_,if_pos hb⟩
   ·exact .inl (if_neg hb)
  ·by_cases hb:b=a
   ·have z':=(if_pos hb).symm.trans z
    cases z'
    subst hb
    exact⟨ha,by rw[List.length_map];exact hl,vs,_,rv,ha⟩
   ·have z':=(if_neg hb).symm.trans z
    cases z'
  ·by_cases hb:b=a
   ·exact hb
   ·exact absurd (if_neg hb) z
theorem Iv{l:PySem.W.OpenLaw}{n k:Nat}{q:Program}{loose:List Str}{XP:(Str→Option Value)→Heap→Prop}{YP:World→Heap→Prop}{d:DefRec}{K:Params→PySem.W.Frag}{CX:World→CXT}{sp:World→Sp}{x:Str}
  (hn:l.most=some n) (hn2:n≤sizeLine) (hdf:d.params.defaults=[]) (hr:eS k callerA)
  (hY:∀(w:World) (h:Heap),YP w h→(K w.params).In h)
  (F:∀(w:World) (mg:Str→Option Value) (fa:Addr) (h:Heap),(K w.params).In h→h.Ns mainGlobals mg→mg d.name=some (.ref fa) →
   ∃fd:FuncData,(∀(s:Shared) (u:Value),BindsTo s fd ⟨[u],[]⟩ [(x,u)]) ∧
    ∀base:Heap,(K w.params).In base→base.Ns mainGlobals mg→aP l.prog w (K w.params) mg base (CX w) k fa fd [x] (sp w))
  (hsp:∀(w:World) (H:Hp) (a:Addr) (ns:List Int),ns.length≤n→LU H→SqL (K w.params) H a (ns.map V.int)→sp w [.ref a] H (λv _=>v = .bl true) λ_ _ _=>False)
  (hCX:∀(w:World) (H:Hp) (s:Shared) (e:Value) (s':Shared),CX w [] H s (λ_ _ _=>False) e s'→False) :
  PySem.W.WalkO q loose XP YP l.row.toRowW d [] (λf vs=>PySem.call f vs):=by
 refine Att.yM hn hdf λw s₀ s₁ mg mb fa o pm cd doc a vs ns G Y ho hd hcd hmg LS hints hlen hg=>?_
 have KX:=hY w _ Y
 obtain⟨fd,hb,hF⟩:=F w mg fa _ KX G.T.g hmg
 exact Fg KX G.T.g G.T.b G.T.builtins G.T.nolimit hg LS hints (Nat.le_trans hlen hn2) hr hF hb (λH hO hS=>hsp w H a ns hlen hO hS) λH e s'=>hCX w H s₁ e s'
end L2
namespace L2
open PySem PySem.Spec PyProof.Rows
def aU(s:Stmt):Arguments:=match s with
 | .FunctionDef _ a _ _ _ _ _ _ _ _=>a
 | _=>{ posonlyargs:=[],args:=[],vararg:=none,kwonlyargs:=[],kw_defaults:=[],kwarg:=none,defaults:=[] }
def aO(s:Stmt):List Stmt:=match s with
 | .FunctionDef _ _ b _ _ _ _ _ _ _=>b
 | _=>[]
def ao(s:Stmt):Scope:=match s with
 | .FunctionDef _ _ _ _ _ _ sc _ _ _=>sc
 | _=>{ kind:=.function,names:=[],isGenerator:=false,isCoroutine:=false }
noncomputable abbrev CX0 : CXT := fun _ _ _ _ _ _ => False
noncomputable abbrev E0 : XK := fun _ _ _ => False
theorem Oq{X:Cx}:Passes CX0 X E0:=λ_ _ _ _ _ _ _ h=>h.elim
structure Fun(K:PySem.W.Frag)(x qual:Str)(st:Stmt)(f:Addr)(fd:FuncData):Prop where
 ex:∃(oc:Value) (od:Option Addr) (kV doc pm:Value) (an:Option Addr) (cdv ct:Value) (osl:Array (Option Value)),
  fd=PySem.W.fnOf x qual (aU st) (aO st) (ao st) .none kV doc pm an cdv ct∧K.lookup f=some ⟨oc,od,.func fd,osl⟩∧PySem.W.codeIn K cdv qual=true
 kp:PySem.W.keepIn K (.ref f)=true
section
variable{P:Program}{w:World}{K:PySem.W.Frag}{mg:Str→Option Value}{base:Heap}
theorem Fun.ok{x qual:Str}{st:Stmt}{f:Addr}{fd:FuncData}{N ps:List Str}{k:Nat}{sp:Sp}(F:Fun K x qual st f fd)(S:aT N ps (ao st))(len:∀vs H Q E,sp vs H Q E→vs.length=ps.length)
  (E6:∀(cdv:Value) (A:Around) (outer:List Env) (s:Shared) (H:Hp) (vs:List V) (Q:VK) (E:XK),eS k (A.deeper (envOfC qual (ao st) s.heap.objs.size f cdv))→sp vs H Q E →
   ∃t,PSs (pv CX0 P w K mg base N qual (ao st) f cdv A outer s H E).nox (aO st) t∧t { nx:=λ_ H'=>Q .non H',rt:=Q } (start N vs) H):aP P w K mg base CX0 (k+1) f fd ps sp:=by
 obtain⟨oc,od,kV,doc,pm,an,cdv,ct,osl,rfl,lk,hcd⟩:=F.ex
 refine Kl lk hcd S len λA outer s H vs Q E hr hsp=>?_
 obtain⟨t,h,q⟩:=E6 cdv A outer s H vs Q E hr hsp
 exact⟨t,h.nox,q⟩
theorem Fun.binds{x qual:Str}{st:Stmt}{f:Addr}{fd:FuncData}{ps:List Str}(F:Fun K x qual st f fd)
  (h:∀(kV doc pm:Value) (an:Option Addr) (cdv ct:Value) (us:List Value),us.length=ps.length→bindArgs (PySem.W.fnOf x qual (aU st) (aO st) (ao st) .none kV doc pm an cdv ct) ⟨us,[]⟩=pure (ps.zip us)):Binds K fd ps []:=by
 obtain⟨oc,od,kV,doc,pm,an,cdv,ct,osl,rfl,lk,hcd⟩:=F.ex
 exact .all (h kV doc pm an cdv ct)
theorem bu{x qual:Str}{st:Stmt}{f:Addr}{oc:Value}{od an:Option Addr}{osl:Array (Option Value)}{kV doc pm cdv ct:Value}(l:K.lookup f=some ⟨oc,od,.func (PySem.W.fnOf x qual (aU st) (aO st) (ao st) .none kV doc pm an cdv ct),osl⟩)
  (c:PySem.W.codeIn K cdv qual=true) (k:PySem.W.keepIn K (.ref f)=true):Fun K x qual st f (PySem.W.fnOf x qual (aU st) (aO st) (ao st) .none kV doc pm an cdv ct):=⟨⟨oc,od,kV,doc,pm,an,cdv,ct,osl,rfl,l,c⟩,k⟩
end
theorem v7{n:Nat}(h:n≤1000):n<sizeLine:=Nat.lt_of_le_of_lt h (by decide)
def aX(H H':Hp):Prop:=∀b o,H b=some o→H' b=some o
theorem aX.refl(H:Hp):aX H H:=λ_ _ h=>h
theorem aX.trans{H H1 H2:Hp}(a:aX H H1)(b:aX H1 H2):aX H H2:=λc o h=>b c o (a c o h)
theorem aX.free{H H':Hp}(e:aX H H'){l:Addr}(h:H' l=Option.none):H l=Option.none:=by
 cases q:H l with
 | none=>rfl
 | some o =>
  rw[e l o q] at h
  cases h
theorem aX.seq{K:PySem.W.Frag}{H H':Hp}{a:Addr}{xs:List V}(e:aX H H')(h:SqL K H a xs):SqL K H' a xs:=by
 rcases h with (h|⟨o,h⟩)|h
 ·exact .inl (.inl (e _ _ h))
 ·exact .inl (.inr ⟨o,e _ _ h⟩)
 ·exact .inr h
section
variable{X:Cx}
theorem Dj:fL X (.builtin "len") (λxs H Q=>∃a kvs,xs=[V.ref a]∧H a=some (.dK kvs)∧Q (.int kvs.length) H):=by
 intro pins s σ H xs us Q I r h
 obtain⟨a,kvs,rfl,ha,q⟩:=h
 obtain⟨u,rfl,ru⟩:=vals1 r
 cases ru
 exact Ol I (.inl ha) λt s' I'=>⟨.int kvs.length,H,I',⟨t,rfl⟩,q⟩
end
theorem dI.there{P:Program}{w:World}{H:Hp}{h:Heap}{a:Addr}{o:HO}(x:dI P w H h a o):∃ob,h.get? a=some ob:=by
 cases o with
 | lst xs=>obtain⟨_,_,_,_,e⟩:=x;exact⟨_,e⟩
 | tup xs=>obtain⟨_,_,_,p⟩:=x;obtain⟨_,e,_⟩:=p;exact⟨_,e⟩
 | dK kvs=>obtain⟨_,_,_,_,o,_,e,_⟩:=x;exact⟨_,e⟩
 | dT kvs=>obtain⟨_,_,_,_,o,_,_,e,_⟩:=x;exact⟨_,e⟩
 | set S n=>obtain⟨o,_,_,_,e,_⟩:=x;exact⟨_,e⟩
 | ins C dx fs=>obtain⟨_,_,_,e,_⟩:=x;exact⟨_,e⟩
 | own y=>obtain⟨_,e⟩:=x;exact⟨_,e⟩
 | xd fs=>obtain⟨_,⟨_,_,_,e,_⟩,_⟩:=x;exact⟨_,e⟩
 | rng lo hi=>obtain⟨_,_,_,e⟩:=x;exact⟨_,e⟩
 | frz ob u=>obtain⟨e,_⟩:=x;exact⟨_,e⟩
 | tbl ps=>exact⟨_,show h.get? a=some _ from x⟩
 | met f y=>exact⟨_,show h.get? a=some _ from x⟩
 | ext φ=>obtain⟨_,⟨_,e⟩,_⟩:=x;exact⟨_,e⟩
def CX1(P:Program)(w:World):CXT:=λouter H s E ev s'=>∃(e t C:Addr) (H':Hp) (B:Heap),ev = .ref e∧s'.os=s.os∧AllBare s'.gens∧Un (frs outer) [] H H' s.heap s'.heap∧HOk P w H' s'.heap∧E (.ref C) none H' ∧
 Heap.FlyingW B outer e (.ref C) (.ref t) s'.heap∧(∀b o,s.heap.get? b=some o→b∉frs outer→∃o',B.get? b=some o')∧∀b o,H' b=some o→∃o',B.get? b=some o'
theorem Fh{P:Program}{w:World}{K:PySem.W.Frag}{mg:Str→Option Value}{base:Heap}{N:List Str}{qual:Str}{scope:Scope}{f:Addr}{cd:Value}{A:Around}{outer:List Env}{s:Shared}{H:Hp}{E:XK}
  {pins:List (Addr×Obj)}{σ:L2.St}{H2:Hp}{s2:Shared}{h':Heap}{e C:Addr}{vs:List Value}
  (I:Inv (pv (CX1 P w) P w K mg base N qual scope f cd A outer s H E) pins σ H2 s2) (hx:Heap.MadeExcOf s2.heap h' e (.ref C) vs) (hE:E (.ref C) none H2) :
  (pv (CX1 P w) P w K mg base N qual scope f cd A outer s H E).xe (.ref e) { s2 with heap:=h' }:=by
 have hin:∀env∈(envOfC qual scope s.heap.objs.size f cd::outer),∀b,env.frame=some b→b∈frs (envOfC qual scope s.heap.objs.size f cd::outer):=λenv he b hb=>List.mem_filterMap.mpr ⟨env,he,hb⟩
 have hst:=I.stack
 have hnf:∀b,b∈frs (envOfC qual scope s.heap.objs.size f cd::outer)→H2 b=none:=I.su
 show wpAny _ _ (leaving _ (.ref e)) _ _ _
 refine wpAny_leaves_madeW (base:=PySem.W.hideAll s2.heap (frs (envOfC qual scope s.heap.objs.size f cd::outer))) (h:=s2.heap) I.ok.frames rfl (λb o q=>PySem.W.of_hideAll _ q) (PySem.W.funFrames_hide hst hin) hx λh'' t fl tup bt up=>?_
 have keep:∀b o,s2.heap.get? b=some o→b∉frs (envOfC qual scope s.heap.objs.size f cd::outer)→h''.get? b=some o:=λb o q nf=>fl.1 b o (PySem.W.hideAll_get _ q nf)
 have slot:∀b o,s2.heap.get? b=some o→b∈frs (envOfC qual scope s.heap.objs.size f cd::outer)→∃sl,h''.get? b=some { o with slots:=sl }:=λb o q hb=>by
  obtain⟨_,o',ho',hnr⟩:=hst.mem hb
  rw[q] at ho'
  cases ho'
  exact up b o (hx.keeps b o q) hnr
 have nl:∀b o,s.heap.get? b=some o→b∉frs outer→b∉frs (envOfC qual scope s.heap.objs.size f cd::outer):=λb o q nb hb=>by
  rcases List.mem_cons.mp (show b∈s.heap.objs.size::frs outer from hb) with z|z
  ·exact absurd (Heap.lt_size q) (by rw[z];exact Nat.lt_irrefl _)
  ·exact nb z
 have U:=I.base
 refine⟨e,t,C,H2,_,rfl,I.os,I.bare,⟨λb o q n nb _=>?_,λb o q n hb _=>?_,λb o q n _=>U.free b o q n (λz=>nomatch z),λb o q _=>?_,U.nS,U.eJ,U.nT⟩,λa o q=>?_,hE,fl,λb o q nb=>?_,λb o q=>?_⟩
 ·exact keep b o (U.keep b o q n nb (λz=>nomatch z)) (nl b o q nb)
 ·obtain⟨sl,e1⟩:=U.slot b o q n hb (λz=>nomatch z)
  obtain⟨sl2,e2⟩:=slot b _ e1 (List.mem_cons_of_mem _ hb)
  exact⟨sl2,e2⟩
 ·obtain⟨o',e1⟩:=U.there b o q (λz=>nomatch z)
  by_cases hb:b∈frs (envOfC qual scope s.heap.objs.size f cd::outer)
  ·obtain⟨sl,e2⟩:=slot b o' e1 hb
   exact⟨_,e2⟩
  ·exact⟨o',keep b o' e1 hb⟩
 ·refine (I.hok a o q).rS (λc v hc r=>keep c v r λhb=>?_) (λ_ r=>r) λ_ _ r=>r
  have:=hnf c hb
  rcases hc with rfl|hc
  ·rw[this] at q;cases q
  ·rw[this] at hc;cases hc
 ·obtain⟨o',e1⟩:=U.there b o q (λz=>nomatch z)
  exact⟨o',PySem.W.hideAll_get _ e1 (nl b o q nb)⟩
 ·obtain⟨o',e1⟩:=dI.there (I.hok b o q)
  exact⟨o',PySem.W.hideAll_get _ e1 λhb=>by rw[hnf b hb] at q;cases q⟩
theorem Iw{P:Program}{w:World}{K:PySem.W.Frag}{mg:Str→Option Value}{base:Heap}{N:List Str}{qual:Str}{scope:Scope}{f:Addr}{cd:Value}{A:Around}{outer:List Env}{s:Shared}{H:Hp}{E E2:XK}
  {pins:List (Addr×Obj)}{σ:L2.St}{H2:Hp}{s2 s3:Shared}{ev:Value}
  (I:Inv (pv (CX1 P w) P w K mg base N qual scope f cd A outer s H E) pins σ H2 s2) (hx:CX1 P w (envOfC qual scope s.heap.objs.size f cd::outer) H2 s2 E2 ev s3) (hE:∀c H',E2 c none H'→E c none H') :
  (pv (CX1 P w) P w K mg base N qual scope f cd A outer s H E).xe ev s3:=by
 obtain⟨e,t,C,H',B,rfl,hos,yN,U2,hok,hE2,fl0,cov,rW⟩:=hx
 have hst:=I.stack
 have hnf:∀b,b∈frs (envOfC qual scope s.heap.objs.size f cd::outer)→H2 b=none:=I.su
 show wpAny _ _ (leaving _ (.ref e)) _ _ _
 refine wpAny_leaves_onW I.ok.frames rfl fl0 λh'' fl up=>?_
 have U:=I.base
 have nl:∀b o,s.heap.get? b=some o→b∉frs outer→b∉frs (envOfC qual scope s.heap.objs.size f cd::outer):=λb o q nb hb=>by
  rcases List.mem_cons.mp (show b∈s.heap.objs.size::frs outer from hb) with z|z
  ·exact absurd (Heap.lt_size q) (by rw[z];exact Nat.lt_irrefl _)
  ·exact nb z
 have same:∀b o o',s3.heap.get? b=some o→B.get? b=some o'→h''.get? b=some o:=λb o o' q1 q2=>by
  have:=fl0.1 b o' q2
  rw[q1] at this
  cases this
  exact fl.1 b o q2
 have slot:∀b o,s3.heap.get? b=some o→b∈frs (envOfC qual scope s.heap.objs.size f cd::outer)→∃sl,h''.get? b=some { o with slots:=sl }:=λb o q hb=>by
  obtain⟨_,o',ho',hnr⟩:=fl0.2.2.1.mem hb
  rw[q] at ho'
  cases ho'
  exact up b o q hnr
 refine⟨e,t,C,H',B,rfl,hos.trans I.os,yN,⟨λb o q n nb _=>?_,λb o q n hb _=>?_,λb o q n _=>?_,λb o q _=>?_,λb xs q=>U2.nS b xs (U.nS b xs q),λb o u q=>U2.eJ b o u (U.eJ b o u q),λb ps q=>?_⟩,λa o q=>?_,hE _ _ hE2,fl,λb o q nb=>?_,rW⟩
 ·have q1:=U.keep b o q n nb (λz=>nomatch z)
  have n1:=U.free b o q n (λz=>nomatch z)
  have nl1:=nl b o q nb
  obtain⟨o',hB⟩:=cov b o q1 nl1
  exact same b o o' (U2.keep b o q1 n1 nl1 (λz=>nomatch z)) hB
 ·obtain⟨sl,e1⟩:=U.slot b o q n hb (λz=>nomatch z)
  have n1:=U.free b o q n (λz=>nomatch z)
  obtain⟨sl2,e2⟩:=U2.slot b _ e1 n1 (List.mem_cons_of_mem _ hb) (λz=>nomatch z)
  obtain⟨sl3,e3⟩:=slot b _ e2 (List.mem_cons_of_mem _ hb)
  exact⟨sl3,e3⟩
 ·have n1:=U.free b o q n (λz=>nomatch z)
  obtain⟨o1,e1⟩:=U.there b o q (λz=>nomatch z)
  exact U2.free b o1 e1 n1 (λz=>nomatch z)
 ·obtain⟨o1,e1⟩:=U.there b o q (λz=>nomatch z)
  obtain⟨o2,e2⟩:=U2.there b o1 e1 (λz=>nomatch z)
  by_cases hb:b∈frs (envOfC qual scope s.heap.objs.size f cd::outer)
  ·obtain⟨sl,e3⟩:=slot b o2 e2 hb
   exact⟨_,e3⟩
  ·obtain⟨o',hB⟩:=cov b o1 e1 hb
   exact⟨o2,same b o2 o' e2 hB⟩
 ·obtain⟨m1,e1⟩:=U.nT b ps q
  obtain⟨m2,e2⟩:=U2.nT b _ e1
  exact⟨m1++m2,by rw[e2,Array.append_assoc]⟩
 ·refine (hok a o q).rS (λc v hc r=>?_) (λ_ r=>r) λ_ _ r=>r
  have hT:∃o1,H' c=some o1:=by
   rcases hc with rfl|hc
   ·exact⟨_,q⟩
   ·exact⟨_,hc⟩
  obtain⟨o1,h1⟩:=hT
  obtain⟨o',hB⟩:=rW c o1 h1
  exact same c v o' r hB
 ·obtain⟨o1,e1⟩:=U.there b o q (λz=>nomatch z)
  exact cov b o1 e1 (nl b o q nb)
theorem Fi{K:PySem.W.Frag}{h:Heap}{mg:Str→Option Value}{x:Str}{C:Addr}{bmB:List Value}{newId:String}(X:K.In h)(hx:mg x=some (.ref C))(q:PySem.W.excIn K C bmB newId=true):OwnCls x C bmB newId mg h:=by
 refine⟨hx,?_⟩
 unfold PySem.W.excIn at q
 match hl:K.lookup C with
 | none=>rw[hl] at q;cases q
 | some o =>
  rw[hl] at q
  split at q
  ·rename_i dd cd sl e
   cases e
   split at q
   ·rename_i C' bm k0 k1 k2 k3 n k5 hm hs
    simp only[Bool.and_eq_true,beq_iff_eq,Bool.not_eq_true'] at q
    obtain⟨⟨⟨⟨⟨e1,e2⟩,e3⟩,e4⟩,e5⟩,e6⟩:=q
    subst e1 e2
    cases cd
    simp only at hm e3 e5 e6
    subst hm e3
    cases sl
    simp only at hs
    subst hs
    exact⟨_,_,_,_,_,_,_,_,_,_,_,_,_,_,_,_,_,X _ _ hl,.of_isNs (PySem.W.isNs_of_in X e5),PySem.W.nsMap_none_of_in X e5 e6,PySem.W.tail_of_in X e4⟩
   ·cases q
  ·cases q
def LV(X:Cx)(C:Addr):TS:=λ_ σ H=>∀(pins:List (Addr×Obj)) (s:Shared) (h':Heap) (e:Addr) (vs:List Value),Inv X pins σ H s→Heap.MadeExcOf s.heap h' e (.ref C) vs→X.xe (.ref e) { s with heap:=h' }
theorem Fj{X:Cx}{x:Str}{C:Addr}{bmB:List Value}{B newId AD:String}{np jl pos p2:Pos}{m:Str}{j:Nat}(F:ExcBaseFacts B newId AD bmB)(hc:X.calm=true)(hg:Gl X x)(hm:X.mg x=some (.ref C))(q:PySem.W.excIn X.K C bmB newId=true)
  (hpl:(backTo jl (starEach [.Constant (.str m) j p2] X.env)).any (·.1)=false:=by rfl) (hs:starEach [.Constant (.str m) j p2] X.env=(false,eval (.Constant (.str m) j p2) X.env)::starEach [] X.env:=by rfl) (hd:(x==("__debug__":Str))=false:=by decide) :
  PS X (.Raise (some (.Call (.Name x np) [.Constant (.str m) j p2] [] jl)) none pos) (LV X C):=by
 intro pins s σ H D I h
 have e0:=I.Ic
 have KX:X.K.In s.heap:=e0.mod.kin.keeps λb o e=>(e0.bs b o e).1
 obtain⟨bm,N,nm,qn,bs,hdct,sn,sub,ab,col,dd,k0,k1,k2,k3,k5,mN,hC,hN,hni,T⟩:=(Fi KX hm q).obj
 refine wpAny_Raise_call_subT (C:=C) (nm:=nm) (q:=qn) (N:=N) (bs:=bs) (bm:=bm) (hdct:=hdct) (sn:=sn) (sub:=sub) (ab:=ab) (col:=col) (dd:=dd) (k0:=k0) (k1:=k1) (k2:=k2) (k3:=k3) (k5:=k5) F (T.hasType F.hasBase) (I.ok.hd hc) hpl hni (pk I hg hm ⟨rfl,?_⟩ hd)
 refine Calls.evalArgs_plain (Calls.spliced_cons (Calls.Constant_str (k:=j) (pos:=p2) (Calls.spliced_nil ?_)))
 exact⟨rfl,by show 1≤sizeLine;decide,hC,hN,T,λh' e hx=>h pins _ h' e _ (I.tok _) hx⟩
theorem Un.held{P:Program}{w:World}{l:List Env}{H H':Hp}{h0 h3 h5 B:Heap}{e:Addr}{cls a0:Value}(U:Un (frs l) [] H H' h0 h3)(hok:HOk P w H' h3)(fl:Heap.FlyingW B l e cls a0 h3)(st:B.StaysIn h5)(up:h3.UpToSlots h5)
  (cov:∀b o,h0.get? b=some o→b∉frs l→∃o',B.get? b=some o') (rW:∀b o,H' b=some o→∃o',B.get? b=some o'):Un (frs l) [] H H' h0 h5∧HOk P w H' h5:=by
 have same:∀b o o',h3.get? b=some o→B.get? b=some o'→h5.get? b=some o:=λb o o' q1 q2=>by
  have:=fl.1 b o' q2
  rw[q1] at this
  cases this
  exact st b o q2
 have slot:∀b o,h3.get? b=some o→b∈frs l→∃sl,h5.get? b=some { o with slots:=sl }:=λb o q hb=>by
  obtain⟨_,o',ho',hnr⟩:=fl.2.2.1.mem hb
  rw[q] at ho'
  cases ho'
  exact up b o q hnr
 refine⟨⟨λb o q n nb hx=>?_,λb o q n hb hx=>?_,U.free,λb o q hx=>?_,U.nS,U.eJ,U.nT⟩,λa o q=>?_⟩
 ·obtain⟨o',hB⟩:=cov b o q nb
  exact same b o o' (U.keep b o q n nb hx) hB
 ·obtain⟨sl,e1⟩:=U.slot b o q n hb hx
  obtain⟨sl2,e2⟩:=slot b _ e1 hb
  exact⟨sl2,e2⟩
 ·obtain⟨o2,e2⟩:=U.there b o q hx
  by_cases hb:b∈frs l
  ·obtain⟨sl,e3⟩:=slot b o2 e2 hb
   exact⟨_,e3⟩
  ·obtain⟨o',hB⟩:=cov b o q hb
   exact⟨o2,same b o2 o' e2 hB⟩
 ·refine (hok a o q).rS (λc v hc r=>?_) (λ_ r=>r) λ_ _ r=>r
  have hT:∃o1,H' c=some o1:=by
   rcases hc with rfl|hc
   ·exact⟨_,q⟩
   ·exact⟨_,hc⟩
  obtain⟨o1,h1⟩:=hT
  obtain⟨o',hB⟩:=rW c o1 h1
  exact same c v o' r hB
section
variable{M:Model}{A:Around}{E:Value→Shared→Prop}{h:Heap}{g:Array GenState}{d:Drawn}{t:Nat}{os:OsState}{e C:Addr}{oe:Obj}
 {nm q:Str}{N:Addr}{bs bm:List Value}{hdct:Bool}{sn:List Str}{sub:List Value}{ab:Bool}{col:Option Bool}{dd:Option Addr}{k0 k1 k2 k3 k5:Option Value}{newId:String}
 {nm' q':Str}{N' D:Addr}{bs' bm':List Value}{Kn:Bool}{sn':List Str}{Ot:List Value}{ab':Bool}{Ou:Option Bool}{dd':Option Addr}{k0' k1' k2' k3' k5':Option Value}{Fl:String}
theorem sX{Q:Bool→Shared→Prop}(hC:h.get? C=some (excClassObj nm q C N bs bm hdct sn sub ab col dd k0 k1 k2 k3 k5 newId))(he:h.get? e=some oe)(wR:oe.cls = .ref C)
  (hD:h.get? D=some (excClassObj nm' q' D N' bs' bm' Kn sn' Ot ab' Ou dd' k0' k1' k2' k3' k5' Fl)) (pA:bm'.contains (.type "BaseException")=true)
  (hq:Q ((Value.ref C::bm).contains (.ref D)) ⟨h,g,d,t,os⟩):wpAny M A (excMatches (.ref e) (.ref D)) Q E ⟨h,g,d,t,os⟩:=by
 have hcB:(Value.ref D::bm').contains (.type "BaseException")=true:=by rw[List.contains_cons,pA,Bool.or_true]
 have f:=tc_notTuple
 unfold excMatches
 cases hb:(Value.ref C::bm).contains (.ref D)<;>rw[hb] at hq <;>
 repeat (first|(with_reducible refine wpAny_loadPart_at he ?_;rw[wR])|with_reducible refine wpAny_loadPart_at hD ?_|(with_reducible refine wpAny_isSubtype_exc hD ?_;rw[hcB])|(with_reducible refine wpAny_isSubtype_exc hC ?_;rw[hb])|wp_step)
 all_goals exact hq
end
def Fm(h:Heap)(C:Addr)(bm:List Value):Prop:=∃nm q N bs hdct sn sub ab col dd k0 k1 k2 k3 k5 newId,h.get? C=some (excClassObj nm q C N bs bm hdct sn sub ab col dd k0 k1 k2 k3 k5 newId)∧bm.contains (.type "BaseException")=true
structure Cau(X:Cx)(pins:List (Addr×Obj))(σ:L2.St)(H':Hp)(e t C:Addr)(B:Heap)(s:Shared):Prop where
 org:∃H0 s0,Inv X pins σ H0 s0∧s.os=s0.os∧Un (frs X.stack) [] H0 H' s0.heap s.heap∧∀b o,s0.heap.get? b=some o→b∉frs X.stack→∃o',B.get? b=some o'
 bare:AllBare s.gens
 hok:HOk X.prog X.w H' s.heap
 fly:Heap.FlyingW B X.stack e (.ref C) (.ref t) s.heap
 cov:∀b o,H' b=some o→∃o',B.get? b=some o'
section
variable{X:Cx}{pins:List (Addr×Obj)}{σ:L2.St}{H':Hp}{e t C:Addr}{B h':Heap}{s:Shared}
theorem Cau.inv(c:Cau X pins σ H' e t C B s):Inv X pins σ H' s:=by
 obtain⟨H0,s0,I,hos,U,_⟩:=c.org
 exact I.Kg (ch:=[]) hos U c.hok c.bare λb z=>nomatch z
theorem Cau.slots{tk:Nat}(c:Cau X pins σ H' e t C B s)(fl:Heap.FlyingW B X.stack e (.ref C) (.ref t) h')(up:s.heap.UpToSlots h'):Cau X pins σ H' e t C B { s with heap:=h',toks:=tk }:=by
 obtain⟨H0,s0,I,hos,U,cov⟩:=c.org
 obtain⟨U',hk⟩:=U.held c.hok c.fly fl.1 up cov c.cov
 exact⟨⟨H0,s0,I,hos,U',cov⟩,c.bare,hk,fl,c.cov⟩
end
theorem cau{X:Cx}{pins:List (Addr×Obj)}{σ:L2.St}{H:Hp}{s s3:Shared}{ev:Value}{E2:XK}{Q:Unit→Shared→Prop}{E:Value→Shared→Prop}(hs:X.stack=X.env::X.outer)(hf:X.env.frame=some X.env.locals)
  (I:Inv X pins σ H s) (hx:CX1 X.prog X.w X.stack H s E2 ev s3)
  (k:∀e t C H' B h5,ev = .ref e→E2 (.ref C) none H'→Cau X pins σ H' e t C B { s3 with heap:=h5 }→Q () { s3 with heap:=h5 }) :
  wpAny (model X.prog X.w) X.A (noteFrame ev X.env) (λ_ s₂=>wpAny (model X.prog X.w) X.A (setFlight ev none) Q E s₂) E s3:=by
 obtain⟨e,t,C,H',B,rfl,hos,yN,U2,hok,hE2,fl0,cov,rW⟩:=hx
 refine wpAny_looks_onW (outer:=X.outer) (by rw[I.ok.frames,hs]) hf (by rw[← hs];exact fl0) λh4 held up4=>?_
 refine wpAny_landsW held λh5 fl5 up5=>?_
 obtain⟨U,hk⟩:=U2.held hok fl0 fl5.1 (up4.trans up5) cov rW
 exact k e t C H' B h5 rfl hE2 ⟨⟨H,s,I,hos,U,cov⟩,yN,hk,by rw[hs];exact fl5,rW⟩
noncomputable abbrev Cx.mark (X : Cx) (ev : Value) : Cx := { X with A := X.A.mark (some ev), calm := false, xe := fun _ _ => False }
section
variable{X:Cx}{pins:List (Addr×Obj)}{σ:L2.St}{H:Hp}{s:Shared}{ev:Value}
theorem Inv.mark(I:Inv X pins σ H s)(ev:Value):Inv (X.mark ev) pins σ H s :=
 ⟨⟨I.ok.mod,I.ok.kind,I.ok.glob,I.ok.blt,I.ok.above,I.ok.inj,I.ok.has,I.ok.cab,(λh=>by cases h),I.ok.frames,I.ok.stk,I.ok.exf,I.ok.bs,I.ok.bsz,I.ok.wO,I.ok.Ak,I.ok.oh,I.ok.frf⟩,I.os,I.bare,I.base,I.loc,I.cell,I.free,I.hU,I.pin,I.hok,I.len⟩
theorem Inv.unmark(ok:X.Ok)(I:Inv (X.mark ev) pins σ H s):Inv X pins σ H s:=⟨ok,I.os,I.bare,I.base,I.loc,I.cell,I.free,I.hU,I.pin,I.hok,I.len⟩
theorem SP.unmark{D:Ends}{f:Flow}(ok:X.Ok)(h:SP (X.mark ev) pins D f s):SP X pins D f s:=by
 cases f with
 | next=>obtain⟨σ',H',I,q⟩:=h;exact⟨σ',H',I.unmark ok,q⟩
 | brk=>obtain⟨σ',H',I,q⟩:=h;exact⟨σ',H',I.unmark ok,q⟩
 | cont=>obtain⟨σ',H',I,q⟩:=h;exact⟨σ',H',I.unmark ok,q⟩
 | ret u=>obtain⟨v,σ',H',I,r,q⟩:=h;exact⟨v,σ',H',I.unmark ok,r,q⟩
end
def Fn(X:Cx)(e:Addr)(name:Option Str)(body:List Stmt)(pos:Pos)(Q:Flow→Shared→Prop)(E:Value→Shared→Prop)(s:Shared):Prop :=
 codeAny (model X.prog X.w) (X.A.mark (some (.ref e))) (.handlers (.ref e) [.ExceptHandler none name body pos] X.env) (λr s₂=>match r with
  | .ok f=>(match name with
   | none=>Q f s₂
   | some n=>wpAny (model X.prog X.w) X.A (do bindName X.env n .none;unbindBehindTheSuite X.env n pos) (λ_ s₃=>Q f s₃) E s₂)
  | .error x=>cameBackBy (model X.prog X.w) X.A X.env E x s₂) s
section
variable{X:Cx}{pins:List (Addr×Obj)}{σ:L2.St}{H':Hp}{e t C D:Addr}{B:Heap}{s:Shared}{bm:List Value}{x:Str}{np pos:Pos}{name:Option Str}{body:List Stmt}{rest:List ExceptHandler}{Q:Flow→Shared→Prop}{E:Value→Shared→Prop}
theorem v8(c:Cau X pins σ H' e t C B s)(hC:Fm s.heap C bm)(hD:∃bm',Fm s.heap D bm')(hg:Gl X x)(hm:X.mg x=some (.ref D))
  (k:if (Value.ref C::bm).contains (.ref D)=true then Fn X e name body pos Q E s else wpAny (model X.prog X.w) X.A (handleBy (.ref e) X.env rest) Q E s) (hd:(x==("__debug__":Str))=false:=by decide) :
  wpAny (model X.prog X.w) X.A (handleBy (.ref e) X.env (.ExceptHandler (some (.Name x np)) name body pos::rest)) Q E s:=by
 obtain⟨ob,hob,wR⟩:=c.fly.there
 refine wpAny_handleBy_cons (codeAny_handlers_test (pk (X:=X.mark (.ref e)) (c.inv.mark _) hg hm ?_ hd)) (by intro q;cases q)
 obtain⟨nm,q,N,bs,hdct,sn,sub,ab,col,dd,k0,k1,k2,k3,k5,newId,hC',_⟩:=hC
 obtain⟨bm',nm',q',N',bs',Kn,sn',Ot,ab',Ou,dd',k0',k1',k2',k3',k5',Fl,hD',hb'⟩:=hD
 obtain⟨h,g,d,tk,os⟩:=s
 refine sX hC' hob wR hD' hb' ?_
 cases hb:(Value.ref C::bm).contains (.ref D) with
 | true=>rw[hb] at k;exact k
 | false=>rw[hb] at k;exact k
theorem AE{ts:TS}{D:Ends}{b₀:Stmt}{tl:List Stmt}(c:Cau X pins σ H' e t C B s)(hs:∀ev,PSs (X.mark ev) (b₀::tl) ts)(h:ts D σ H'):Fn X e none (b₀::tl) pos (SP X pins D) E s:=by
 have ok:=c.inv.ok
 refine codeAny_handlers_suite (lands_againW c.fly λh6 fl6 up6=>?_)
 have c6:=Cau.slots (tk:=s.toks) c fl6 up6
 exact wpAny_mono (hs (.ref e) pins _ σ H' D (c6.inv.mark _) h) (λf s2 q=>SP.unmark ok q) λ_ _ z=>False.elim z
end
noncomputable abbrev NmD := Str × Pos × Addr
section
variable{X:Cx}{pins:List (Addr×Obj)}{σ:L2.St}{H':Hp}{e t C:Addr}{B:Heap}{s:Shared}{bm:List Value}{pos:Pos}{name:Option Str}{body:List Stmt}{rest:List ExceptHandler}{Q:Flow→Shared→Prop}{E:Value→Shared→Prop}
def nmE(n:NmD):Expr:=.Name n.1 n.2.1
structure Ov(X:Cx)(n:NmD):Prop where
 g:Gl X n.1
 m:X.mg n.1=some (.ref n.2.2)
 d:(n.1==("__debug__":Str))=false
end
section
variable{X:Cx}{pins:List (Addr×Obj)}{σ:L2.St}{H:Hp}{s:Shared}
theorem Inv.Ow{a:Addr}{φ:Heap→Prop}(I:Inv X pins σ H s)(hn:H a=none)(ha:∃o,s.heap.get? a=some o)(h0:X.s₀.heap.get? a=none)(hL:a≠X.env.locals)(hc:∀x c,X.env.cells.lookup x=some c→c≠a)(hp:∀p∈X.pn++pins,p.1≠a)
  (hφ:φ s.heap) (st:∀h1 h2:Heap,φ h1→(∀o,h1.get? a=some o→h2.get? a=some o)→φ h2):Inv X pins σ (upd H a (.ext φ)) s:=by
 have U:=I.base
 have ne:∀b o,H b=some o→b≠a:=λb o q z=>by rw[z,hn] at q;cases q
 have yO:∀b o,H b=some o→upd H a (.ext φ) b=some o:=λb o q=>by rw[aQ (ne b o q)];exact q
 refine⟨I.ok,I.os,I.bare,⟨U.keep,U.slot,λb o q n hx=>?_,U.there,λb xs q=>yO b _ (U.nS b xs q),λb o u q=>yO b _ (U.eJ b o u q),λb ps q=>?_⟩,I.loc,I.cell,?_,λx c q=>?_,λp h=>?_,λb o q=>?_,I.len⟩
 ·have z:b≠a:=λz=>by rw[z,h0] at q;cases q
  rw[aQ z];exact U.free b o q n hx
 ·obtain⟨m,e1⟩:=U.nT b ps q
  exact⟨m,yO b _ e1⟩
 ·rw[aQ hL.symm];exact I.free
 ·rw[aQ (hc x c q)];exact I.hU x c q
 ·obtain⟨e1,e2,e3⟩:=I.pin p h
  exact⟨e1,by rw[aQ (hp p h)];exact e2,e3⟩
 ·by_cases z:b=a
  ·subst z
   rw[aV] at q
   cases q
   exact⟨hφ,ha,st⟩
  ·rw[aQ z] at q
   exact (I.hok b o q).rS (λc v _ r=>r) (λ_ r=>yO _ _ r) λ_ _ r=>yO _ _ r
theorem Dk{M:Model}{A:Around}{E:Value→Shared→Prop}{i:Nat}{x:Str}{v:V}{Q:Unit→Shared→Prop}(I:Inv X pins σ H s)(hN:X.N.Nodup)(hi:X.N[i]?=some x)(hk:X.env.scope.names.lookup x=some .local)(hv:σ[i]?=some (some v))
  (h:∀s',Inv X pins (σ.set i none) H s'→Q () s'):wpAny M A (unbindName X.env x) Q E s:=by
 obtain⟨m,hn,hl⟩:=id I.loc
 have wR:(X.env.scope.kind == .class || (X.env.scope.kind == .module && X.env.locals != X.env.globals))=false:=by rw[I.ok.kind];rfl
 have hiσ:i<σ.length:=by rw[I.len];exact (List.getElem?_eq_some_iff.mp hi).1
 have cne:=I.cne
 obtain⟨u,_,q⟩:=hl i x v hi hv (.inl hk)
 have hm:m x=some u:=by
  rcases q with ⟨_,e⟩|⟨k,_⟩
  ·exact e
  ·have hk':X.env.kindOf x=some .local:=hk
   rw[hk'] at k
   rcases k with k|k<;>cases k
 refine wpAny_unbindName_local hk hn hm wR λh' u' hn' hs=>?_
 have tracked:HOk X.prog X.w H h':=λb ob e=>by
  refine (I.hok b ob e).rS (λc w' hc q=>(hs.2 c ?_).trans q) (λ_ q=>q) λ_ _ q=>q
  rintro rfl
  have yD:=I.free
  rcases hc with rfl|hc
  ·rw[yD] at e;cases e
  ·rw[yD] at hc;cases hc
 have far:∀b o,X.s₀.heap.get? b=some o→b≠X.env.locals:=λb o e=>Nat.ne_of_lt (Nat.lt_of_lt_of_le (Heap.lt_size e) I.ok.above)
 refine h _ ⟨I.ok,I.os,I.bare,⟨λb o e n hb hx=>?_,λb o e n hb hx=>?_,I.base.free,λb o e hx=>?_,I.base.nS,I.base.eJ,I.base.nT⟩,⟨_,hn',λj y v' e1 e2 e3=>?_⟩,λy c e=>?_,I.free,I.hU,λp hp=>?_,tracked,by simpa using I.len⟩
 ·exact (hs.2 b (far b o e)).trans (I.base.keep b o e n hb hx)
 ·obtain⟨sl,e1⟩:=I.base.slot b o e n hb hx
  exact⟨sl,(hs.2 b (far b o e)).trans e1⟩
 ·obtain⟨o',e1⟩:=I.base.there b o e hx
  exact⟨o',(hs.2 b (far b o e)).trans e1⟩
 ·by_cases hj:j=i
  ·subst hj
   rw[List.getElem?_set_self hiσ] at e2
   cases e2
  ·rw[List.getElem?_set_ne (Ne.symm hj)] at e2
   obtain⟨w',r',q'⟩:=hl j y v' e1 e2 e3
   refine⟨w',r',?_⟩
   rcases q' with ⟨k,e⟩|⟨k,c,e,z⟩
   ·have:y≠x:=λe=>hj (sR hN e1 (e ▸ hi))
    exact .inl ⟨k,by simp[this,e]⟩
   ·exact .inr ⟨k,c,e,z.sameBut hs (cne y c e)⟩
 ·obtain⟨w',z⟩:=I.cell y c e
  exact⟨w',z.sameBut hs (cne y c e)⟩
 ·obtain⟨e,n,ne,nf,d⟩:=I.pin p hp
  exact⟨(hs.2 p.1 ne).trans e,n,ne,nf,d⟩
end
def j0(e C:Addr)(h:Heap):Prop:=∃o,h.get? e=some o∧o.cls = .ref C
section
variable{X:Cx}{pins:List (Addr×Obj)}{σ:L2.St}{H':Hp}{e t C:Addr}{B:Heap}{s:Shared}{pos:Pos}{E:Value→Shared→Prop}
theorem Cau.tracked(φ:Heap→Prop)(hφ:∀h,j0 e C h→φ h)(st:∀h1 h2:Heap,φ h1→(∀o,h1.get? e=some o→h2.get? e=some o)→φ h2)(hs:X.stack=X.env::X.outer)(hf:X.env.frame=some X.env.locals)(hex:X.ex=[])(c:Cau X pins σ H' e t C B s):Inv X pins σ (upd H' e (.ext φ)) s:=by
 have I:=c.inv
 obtain⟨H0,s0,I0,hos,U,cov⟩:=c.org
 have hBe:B.get? e=none:=c.fly.2.1
 obtain⟨oe,vs,T,oT,ts,he,⟨wR,_⟩,hd,_⟩:=c.fly.2.2.2
 have nf:e∉frs X.stack:=λhb=>by
  obtain⟨_,o,ho,hnr⟩:=c.fly.2.2.1.mem hb
  rw[he] at ho
  cases ho
  exact hnr vs hd
 have nB:∀b o,s0.heap.get? b=some o→b∉frs X.stack→b≠e:=λb o q nb z=>by
  obtain⟨o',h1⟩:=cov b o q nb
  rw[z,hBe] at h1
  cases h1
 have hLf:X.env.locals∈frs X.stack:=by
  rw[hs]
  exact List.mem_filterMap.mpr ⟨X.env,.head _,hf⟩
 refine I.Ow ?_ ⟨oe,he⟩ ?_ (λz=>nf (z ▸ hLf)) (λx cc q z=>?_) (λp hp z=>?_) (hφ _ ⟨oe,he,wR⟩) st
 ·cases q:H' e with
  | none=>rfl
  | some o =>
   obtain⟨o',h1⟩:=c.cov e o q
   rw[hBe] at h1
   cases h1
 ·cases q:X.s₀.heap.get? e with
  | none=>rfl
  | some o =>
   obtain⟨o',h1⟩:=I0.base.there e o q (by rw[hex];exact λz=>nomatch z)
   exact absurd rfl (nB e o' h1 nf)
 ·obtain⟨v,o,h1,h2⟩:=I.cell x cc q
  rw[z,he] at h1
  cases h1
  rw[hd] at h2
  cases h2
 ·obtain⟨h1,_,h3,h4,_⟩:=I0.pin p hp
  refine nB p.1 p.2 h1 (λhb=>?_) z
  rw[hs] at hb
  rcases List.mem_filterMap.mp hb with ⟨env,hm,hfe⟩
  rcases List.mem_cons.mp hm with rfl|hm
  ·rw[hf] at hfe
   exact h3 (Option.some.inj hfe).symm
  ·exact h4 (List.mem_filterMap.mpr ⟨env,hm,hfe⟩)
def Ends.less(i:Nat)(D:Ends):Ends:={ D with nx:=λσ H=>D.nx (σ.set i none) H,bk:=λσ H=>D.bk (σ.set i none) H,ct:=λσ H=>D.ct (σ.set i none) H }
theorem Iy{i:Nat}{n:Str}{D:Ends}{f:Flow}{s2:Shared}(hN:X.N.Nodup)(hi:X.N[i]?=some n)(hk:X.env.scope.names.lookup n=some .local)(h:SP X pins (D.less i) f s2) :
  wpAny (model X.prog X.w) X.A (do bindName X.env n .none;unbindBehindTheSuite X.env n pos) (λ_ s₃=>SP X pins D f s₃) E s2:=by
 have go:∀{σ':L2.St}{H2:Hp} (R:L2.St→Prop),Inv X pins σ' H2 s2→(∀s3,Inv X pins (σ'.set i none) H2 s3→SP X pins D f s3)→wpAny (model X.prog X.w) X.A (do bindName X.env n .none;unbindBehindTheSuite X.env n pos) (λ_ s₃=>SP X pins D f s₃) E s2:=λ{σ' H2} R I k=>by
  refine wpAny_bind (wpAny_bindName (pj (v:=.non) I hN hi (.inl hk) rfl (λs3 I3=>?_) (.inr hk)))
  refine wpAny_onRaise (Dk (v:=.non) I3 hN hi hk ?_ λs4 I4=>?_)
  ·rw[List.getElem?_set_self (by rw[I.len];exact (List.getElem?_eq_some_iff.mp hi).1)]
  ·rw[List.set_set] at I4
   exact k s4 I4
 cases f with
 | next=>obtain⟨σ',H2,I,q⟩:=h;exact go (λ_=>True) I λs3 I3=>⟨_,_,I3,q⟩
 | brk=>obtain⟨σ',H2,I,q⟩:=h;exact go (λ_=>True) I λs3 I3=>⟨_,_,I3,q⟩
 | cont=>obtain⟨σ',H2,I,q⟩:=h;exact go (λ_=>True) I λs3 I3=>⟨_,_,I3,q⟩
 | ret u=>obtain⟨v,σ',H2,I,r,q⟩:=h;exact go (λ_=>True) I λs3 I3=>⟨v,_,_,I3,r,q⟩
theorem Fo{φ:Heap→Prop}{i:Nat}{n:Str}{ts:TS}{D:Ends}{b₀:Stmt}{tl:List Stmt}(hs:X.stack=X.env::X.outer)(hf:X.env.frame=some X.env.locals)(hex:X.ex=[])(hN:X.N.Nodup)(hi:X.N[i]?=some n)(hk:X.env.scope.names.lookup n=some .local)
  (c:Cau X pins σ H' e t C B s) (hφ:∀h,j0 e C h→φ h) (st:∀h1 h2:Heap,φ h1→(∀o,h1.get? e=some o→h2.get? e=some o)→φ h2) (hp:∀ev,PSs (X.mark ev) (b₀::tl) ts) (h:ts (D.less i) (σ.set i (some (.ref e))) (upd H' e (.ext φ))):Fn X e (some n) (b₀::tl) pos (SP X pins D) E s:=by
 have ok:=c.inv.ok
 refine codeAny_handlers_suite_as (lands_againW c.fly λh6 fl6 up6=>?_)
 have c6:=Cau.slots (tk:=s.toks) c fl6 up6
 have I6:=c6.tracked φ hφ st hs hf hex
 refine pj (v:=.ref e) I6 hN hi (.inl hk) rfl (λs3 I3=>?_) (.inr hk)
 exact wpAny_mono (hp (.ref e) pins s3 _ _ (D.less i) (I3.mark _) h) (λf s2 q=>Iy hN hi hk (SP.unmark ok q)) λ_ _ z=>False.elim z
end
structure Hel(X:Cx)(pins:List (Addr×Obj))(σ:L2.St)(H':Hp)(e t C:Addr)(B:Heap)(s:Shared):Prop where
 org:∃H0 s0,Inv X pins σ H0 s0∧s.os=s0.os∧Un (frs X.stack) [] H0 H' s0.heap s.heap∧∀b o,s0.heap.get? b=some o→b∉frs X.stack→∃o',B.get? b=some o'
 bare:AllBare s.gens
 hok:HOk X.prog X.w H' s.heap
 held:Heap.HeldW B X.stack e (.ref C) (.ref t) X.env.locals s.heap
 cov:∀b o,H' b=some o→∃o',B.get? b=some o'
theorem LW{P:Program}{w:World}{K:PySem.W.Frag}{mg:Str→Option Value}{base:Heap}{N:List Str}{qual:Str}{scope:Scope}{f:Addr}{cd:Value}{A:Around}{outer:List Env}{s:Shared}{H:Hp}{E:XK}
  {pins:List (Addr×Obj)}{σ:L2.St}{H':Hp}{s3:Shared}{e t C:Addr}{B:Heap}
  (c:Hel (pv (CX1 P w) P w K mg base N qual scope f cd A outer s H E) pins σ H' e t C B s3) (hE:E (.ref C) none H') :
  (pv (CX1 P w) P w K mg base N qual scope f cd A outer s H E).xe (.ref e) s3:=by
 obtain⟨H2,s2,I,hos,U2,cov⟩:=c.org
 have hh:Heap.HeldW B (envOfC qual scope s.heap.objs.size f cd::outer) e (.ref C) (.ref t) s.heap.objs.size s3.heap:=c.held
 have rW:=c.cov
 have hok:=c.hok
 show wpAny _ _ (leaving _ (.ref e)) _ _ _
 unfold leaving
 refine wpAny_bind (wpAny_noteFrame_againW rfl hh.2.2.2 ?_)
 refine wpAny_landsW hh λh'' fl up=>?_
 have U:=I.base
 have nl:∀b o,s.heap.get? b=some o→b∉frs outer→b∉frs (envOfC qual scope s.heap.objs.size f cd::outer):=λb o q nb hb=>by
  rcases List.mem_cons.mp (show b∈s.heap.objs.size::frs outer from hb) with z|z
  ·exact absurd (Heap.lt_size q) (by rw[z];exact Nat.lt_irrefl _)
  ·exact nb z
 have same:∀b o o',s3.heap.get? b=some o→B.get? b=some o'→h''.get? b=some o:=λb o o' q1 q2=>by
  have:=hh.1 b o' q2
  rw[q1] at this
  cases this
  exact fl.1 b o q2
 have slot:∀b o,s3.heap.get? b=some o→b∈frs (envOfC qual scope s.heap.objs.size f cd::outer)→∃sl,h''.get? b=some { o with slots:=sl }:=λb o q hb=>by
  obtain⟨_,o',ho',hnr⟩:=hh.2.2.1.mem hb
  rw[q] at ho'
  cases ho'
  exact up b o q hnr
 obtain⟨k1,k2,⟨_,_,k3⟩,k4⟩:=fl
 refine⟨e,t,C,H',B,rfl,hos.trans I.os,c.bare,⟨λb o q n nb _=>?_,λb o q n hb _=>?_,λb o q n _=>?_,λb o q _=>?_,λb xs q=>U2.nS b xs (U.nS b xs q),λb o u q=>U2.eJ b o u (U.eJ b o u q),λb ps q=>?_⟩,λa o q=>?_,hE,⟨k1,k2,k3,k4⟩,λb o q nb=>?_,rW⟩
 ·have q1:=U.keep b o q n nb (λz=>nomatch z)
  have n1:=U.free b o q n (λz=>nomatch z)
  have nl1:=nl b o q nb
  obtain⟨o',hB⟩:=cov b o q1 nl1
  exact same b o o' (U2.keep b o q1 n1 nl1 (λz=>nomatch z)) hB
 ·obtain⟨sl,e1⟩:=U.slot b o q n hb (λz=>nomatch z)
  have n1:=U.free b o q n (λz=>nomatch z)
  obtain⟨sl2,e2⟩:=U2.slot b _ e1 n1 (List.mem_cons_of_mem _ hb) (λz=>nomatch z)
  obtain⟨sl3,e3⟩:=slot b _ e2 (List.mem_cons_of_mem _ hb)
  exact⟨sl3,e3⟩
 ·have n1:=U.free b o q n (λz=>nomatch z)
  obtain⟨o1,e1⟩:=U.there b o q (λz=>nomatch z)
  exact U2.free b o1 e1 n1 (λz=>nomatch z)
 ·obtain⟨o1,e1⟩:=U.there b o q (λz=>nomatch z)
  obtain⟨o2,e2⟩:=U2.there b o1 e1 (λz=>nomatch z)
  by_cases hb:b∈frs (envOfC qual scope s.heap.objs.size f cd::outer)
  ·obtain⟨sl,e3⟩:=slot b o2 e2 hb
   exact⟨_,e3⟩
  ·obtain⟨o',hB⟩:=cov b o1 e1 hb
   exact⟨o2,same b o2 o' e2 hB⟩
 ·obtain⟨m1,e1⟩:=U.nT b ps q
  obtain⟨m2,e2⟩:=U2.nT b _ e1
  exact⟨m1++m2,by rw[e2,Array.append_assoc]⟩
 ·refine (hok a o q).rS (λc v hc r=>?_) (λ_ r=>r) λ_ _ r=>r
  have hT:∃o1,H' c=some o1:=by
   rcases hc with rfl|hc
   ·exact⟨_,q⟩
   ·exact⟨_,hc⟩
  obtain⟨o1,h1⟩:=hT
  obtain⟨o',hB⟩:=rW c o1 h1
  exact same c v o' r hB
 ·obtain⟨o1,e1⟩:=U.there b o q (λz=>nomatch z)
  exact cov b o1 e1 (nl b o q nb)
end L2
namespace Fw
open PySem
noncomputable abbrev Key := Sum Int Str
inductive T where
 | non|bl (b:Bool)|int (i:Int)|str (x:Str)
 | lst (ts:List T)|tup (ts:List T)|dct (kts:List (Key×T))|exc (c:Str) (t:Option Str)
inductive SV where
 | val (t:T)|cel (k:Nat)|box (xs:List (Sum T Nat))
noncomputable abbrev ag := List (Bool × T)
noncomputable abbrev Slots := List (Option SV)
inductive R(α:Type) where
 | ok (a:α) (μ:ag)|err (c:T) (μ:ag)|bad
def R.bind{α β:Type}(x:R α)(f:α→ag→R β):R β:=match x with
 | .ok a μ=>f a μ
 | .err c μ => .err c μ
 | .bad => .bad
@[simp] theorem R.bf{α β:Type}(a:α)(μ:ag)(f:α→ag→R β):(R.ok a μ).bind f=f a μ:=(rfl)
def R.lift{α:Type}(o:Option α)(μ:ag):R α:=match o with
 | some a => .ok a μ
 | none => .bad
@[simp] theorem R.ba{α:Type}(a:α)(μ:ag):R.lift (some a) μ = .ok a μ:=(rfl)
theorem R.a_{α β:Type}{x:R α}{f:α→ag→R β}{b:β}{μ:ag}(h:x.bind f = .ok b μ):∃a μ1,x = .ok a μ1∧f a μ1 = .ok b μ:=by
 cases x with
 | ok a μ1=>exact⟨a,μ1,rfl,h⟩
 | err c μ1=>cases h
 | bad=>cases h
theorem R.oj{α:Type}{o:Option α}{μ μ':ag}{a:α}(h:R.lift o μ = .ok a μ'):o=some a∧μ=μ':=by
 cases o with
 | none=>cases h
 | some x=>cases h;exact⟨rfl,rfl⟩
def R.calm{α:Type}:R α→R α
 | .ok a μ => .ok a μ
 | _ => .bad
@[simp] theorem R.eK{α:Type}(a:α)(μ:ag):(R.ok a μ).calm = .ok a μ:=(rfl)
theorem R.calm_eq{α:Type}{r:R α}{a:α}{μ:ag}(h:r.calm = .ok a μ):r = .ok a μ:=by
 cases r with
 | ok b ν=>exact h
 | err c ν=>cases h
 | bad=>cases h
noncomputable abbrev D := Slots → ag → R SV
def szL:Nat:=16777216
def rd(μ:ag):SV→Option T
 | .val t=>some t
 | .cel k=>(μ[k]?).map (·.2)
 | .box _=>none
@[simp] theorem jm(μ:ag)(t:T):rd μ (.val t)=some t:=(rfl)
def yP(x:Sum T Nat)(μ:ag):R T:=match x with
 | .inl t => .ok t μ
 | .inr k=>match μ[k]? with
  | some (_,t) => .ok t (μ.set k (false,t))
  | none => .bad
def lW:List (Sum T Nat)→ag→R (List T)
 | [],μ => .ok [] μ
 | x::xs,μ=>(yP x μ).bind λt μ1=>(lW xs μ1).bind λts μ2 => .ok (t::ts) μ2
def frz(sv:SV)(μ:ag):R T:=match sv with
 | .val t => .ok t μ
 | .cel k=>match μ[k]? with
  | some (_,t) => .ok t (μ.set k (false,t))
  | none => .bad
 | .box xs=>(lW xs μ).bind λts μ1 => .ok (.tup ts) μ1
@[simp] theorem pD(μ:ag)(t:T):frz (.val t) μ = .ok t μ:=(rfl)
def eJ:List SV→ag→R (List T)
 | [],μ => .ok [] μ
 | x::xs,μ=>(frz x μ).bind λt μ1=>(eJ xs μ1).bind λts μ2 => .ok (t::ts) μ2
@[simp] theorem sY(μ:ag):eJ [] μ = .ok [] μ:=(rfl)
@[simp] theorem nc(x:SV)(xs:List SV)(μ:ag):eJ (x::xs) μ=(frz x μ).bind λt μ1=>(eJ xs μ1).bind λts μ2 => .ok (t::ts) μ2:=(rfl)
theorem Iz(x:Sum T Nat)(μ:ag)(c:T)(μ':ag):yP x μ ≠ .err c μ':=by
 cases x with
 | inl t=>intro h;cases h
 | inr k =>
  unfold yP
  cases q:μ[k]? with
  | none=>simp[q]
  | some p=>simp[q]
theorem yQ:∀(xs:List (Sum T Nat)) (μ:ag) (c:T) (μ':ag),lW xs μ ≠ .err c μ'
 | [],μ,c,μ'=>by intro h;cases h
 | x::xs,μ,c,μ'=>by
  unfold lW
  cases q:yP x μ with
  | err d μ1=>exact absurd q (Iz x μ d μ1)
  | bad=>intro h;cases h
  | ok t μ1 =>
   rw[R.bf]
   cases q2:lW xs μ1 with
   | err d μ2=>exact absurd q2 (yQ xs μ1 d μ2)
   | bad=>intro h;cases h
   | ok ts μ2=>intro h;cases h
theorem sZ(x:SV)(μ:ag)(c:T)(μ':ag):frz x μ ≠ .err c μ':=by
 cases x with
 | val t=>intro h;cases h
 | cel k =>
  unfold frz
  cases q:μ[k]? with
  | none=>simp[q]
  | some p=>simp[q]
 | box xs =>
  show (lW xs μ).bind _≠_
  cases q:lW xs μ with
  | err d μ1=>exact absurd q (yQ xs μ d μ1)
  | bad=>intro h;cases h
  | ok t μ1=>intro h;cases h
theorem sA:∀(xs:List SV) (μ:ag) (c:T) (μ':ag),eJ xs μ ≠ .err c μ'
 | [],μ,c,μ'=>by intro h;cases h
 | x::xs,μ,c,μ'=>by
  rw[nc]
  cases q:frz x μ with
  | err d μ1=>exact absurd q (sZ x μ d μ1)
  | bad=>intro h;cases h
  | ok t μ1 =>
   rw[R.bf]
   cases q2:eJ xs μ1 with
   | err d μ2=>exact absurd q2 (sA xs μ1 d μ2)
   | bad=>intro h;cases h
   | ok ts μ2=>intro h;cases h
def slot(e:Slots)(i:Nat):Option SV:=match e[i]? with
 | some (some sv)=>some sv
 | _=>none
@[simp] theorem dy(x:SV)(e:Slots):slot (some x::e) 0=some x:=(rfl)
@[simp] theorem Dl(e:Slots):slot (none::e) 0=none:=(rfl)
@[simp] theorem dz(x:Option SV)(e:Slots)(i:Nat):slot (x::e) (i+1)=slot e i:=(rfl)
def ae(i:Nat):D:=λe μ=>R.lift (slot e i) μ
@[simp] theorem fb(i:Nat)(e:Slots)(μ:ag):ae i e μ=R.lift (slot e i) μ:=(rfl)
def dC(t:T):D:=λ_ μ => .ok (.val t) μ
@[simp] theorem s_(t:T)(e:Slots)(μ:ag):dC t e μ = .ok (.val t) μ:=(rfl)
def ap1(f:T→Option T):Option T→Option SV
 | some t=>(f t).map SV.val
 | none=>none
def ap2(f:T→T→Option T):Option T→Option T→Option SV
 | some t,some u=>(f t u).map SV.val
 | _,_=>none
@[simp] theorem pE(f:T→Option T)(t:T):ap1 f (some t)=(f t).map SV.val:=(rfl)
@[simp] theorem pF(f:T→T→Option T)(t u:T):ap2 f (some t) (some u)=(f t u).map SV.val:=(rfl)
theorem om{f:T→Option T}{o:Option T}{w:SV}(h:ap1 f o=some w):∃t u,o=some t∧f t=some u∧w = .val u:=by
 cases o with
 | none=>cases h
 | some t =>
  obtain⟨u,h1,rfl⟩:=Option.map_eq_some_iff.mp (show (f t).map SV.val=some w from h)
  exact⟨t,u,rfl,h1,rfl⟩
theorem tf{f:T→T→Option T}{o p:Option T}{w:SV}(h:ap2 f o p=some w):∃t u v,o=some t∧p=some u∧f t u=some v∧w = .val v:=by
 cases o with
 | none=>cases p<;>cases h
 | some t =>
  cases p with
  | none=>cases h
  | some u =>
   obtain⟨v,h1,rfl⟩:=Option.map_eq_some_iff.mp (show (f t u).map SV.val=some w from h)
   exact⟨t,u,v,rfl,rfl,h1,rfl⟩
def dUn(f:T→Option T)(a:D):D:=λe μ=>(a e μ).bind λx μ1=>R.lift (ap1 f (rd μ1 x)) μ1
@[simp] theorem w8(f:T→Option T)(a:D)(e:Slots)(μ:ag):dUn f a e μ=(a e μ).bind λx μ1=>R.lift (ap1 f (rd μ1 x)) μ1:=(rfl)
def ai(f:T→T→Option T)(a b:D):D:=λe μ=>(a e μ).bind λx μ1=>(b e μ1).bind λy μ2=>R.lift (ap2 f (rd μ2 x) (rd μ2 y)) μ2
@[simp] theorem pG(f:T→T→Option T)(a b:D)(e:Slots)(μ:ag):ai f a b e μ=(a e μ).bind λx μ1=>(b e μ1).bind λy μ2=>R.lift (ap2 f (rd μ2 x) (rd μ2 y)) μ2:=(rfl)
def asB:SV→Option Bool
 | .val (.bl b)=>some b
 | _=>none
@[simp] theorem jn(b:Bool):asB (.val (.bl b))=some b:=(rfl)
def w_(a b:D):D:=λe μ=>(a e μ).bind λx μ1=>(R.lift (asB x) μ1).bind λk μ1=>if k=true then b e μ1 else .ok (.val (.bl false)) μ1
def dOr(a b:D):D:=λe μ=>(a e μ).bind λx μ1=>(R.lift (asB x) μ1).bind λk μ1=>if k=true then .ok (.val (.bl true)) μ1 else b e μ1
def kJ(a:D):D:=λe μ=>(a e μ).bind λx μ1=>(R.lift (asB x) μ1).bind λk μ1 => .ok (.val (.bl (!k))) μ1
def IA(c a b:D):D:=λe μ=>(c e μ).bind λx μ1=>(R.lift (asB x) μ1).bind λk μ1=>if k=true then a e μ1 else b e μ1
@[simp] theorem IB(a b:D)(e:Slots)(μ:ag):w_ a b e μ=(a e μ).bind λx μ1=>(R.lift (asB x) μ1).bind λk μ1=>if k=true then b e μ1 else .ok (.val (.bl false)) μ1:=(rfl)
@[simp] theorem LX(a b:D)(e:Slots)(μ:ag):dOr a b e μ=(a e μ).bind λx μ1=>(R.lift (asB x) μ1).bind λk μ1=>if k=true then .ok (.val (.bl true)) μ1 else b e μ1:=(rfl)
@[simp] theorem IC(a:D)(e:Slots)(μ:ag):kJ a e μ=(a e μ).bind λx μ1=>(R.lift (asB x) μ1).bind λk μ1 => .ok (.val (.bl (!k))) μ1:=(rfl)
@[simp] theorem ID(c a b:D)(e:Slots)(μ:ag):IA c a b e μ=(c e μ).bind λx μ1=>(R.lift (asB x) μ1).bind λk μ1=>if k=true then a e μ1 else b e μ1:=(rfl)
def eT:List D→Slots→ag→R (List SV)
 | [],_,μ => .ok [] μ
 | d::ds,e,μ=>(d e μ).bind λx μ1=>(eT ds e μ1).bind λxs μ2 => .ok (x::xs) μ2
@[simp] theorem eU(e:Slots)(μ:ag):eT [] e μ = .ok [] μ:=(rfl)
@[simp] theorem bH(d:D)(ds:List D)(e:Slots)(μ:ag):eT (d::ds) e μ=(d e μ).bind λx μ1=>(eT ds e μ1).bind λxs μ2 => .ok (x::xs) μ2:=(rfl)
def lX(ds:List D):D:=λe μ=>(eT ds e μ).bind λxs μ1=>(eJ xs μ1).bind λts μ2 => .ok (.val (.tup ts)) μ2
def eY(ds:List D):D:=λe μ=>(eT ds e μ).bind λxs μ1=>(eJ xs μ1).bind λts μ2 => .ok (.val (.lst ts)) μ2
@[simp] theorem IE(ds:List D)(e:Slots)(μ:ag):lX ds e μ=(eT ds e μ).bind λxs μ1=>(eJ xs μ1).bind λts μ2 => .ok (.val (.tup ts)) μ2:=(rfl)
@[simp] theorem xa(ds:List D)(e:Slots)(μ:ag):eY ds e μ=(eT ds e μ).bind λxs μ1=>(eJ xs μ1).bind λts μ2 => .ok (.val (.lst ts)) μ2:=(rfl)
def pH(f:T→T→Option T)(ds:List D)(b:D):D:=λe μ=>(eT ds e μ).bind λxs μ1=>(eJ xs μ1).bind λts μ2=>(b e μ2).bind λy μ3=>R.lift (ap1 (f (.lst ts)) (rd μ3 y)) μ3
@[simp] theorem IF(f:T→T→Option T)(ds:List D)(b:D)(e:Slots)(μ:ag):pH f ds b e μ=(eT ds e μ).bind λxs μ1=>(eJ xs μ1).bind λts μ2=>(b e μ2).bind λy μ3=>R.lift (ap1 (f (.lst ts)) (rd μ3 y)) μ3:=(rfl)
def boxed:List SV→Option (List (Sum T Nat))
 | []=>some []
 | .val t::xs=>(boxed xs).map λys => .inl t::ys
 | .cel k::xs=>(boxed xs).map λys => .inr k::ys
 | .box _::_=>none
def rX(ds:List D):D:=λe μ=>(eT ds e μ).bind λxs μ1=>(R.lift (boxed xs) μ1).bind λys μ1 => .ok (.box ys) μ1
@[simp] theorem xb(ds:List D)(e:Slots)(μ:ag):rX ds e μ=(eT ds e μ).bind λxs μ1=>(R.lift (boxed xs) μ1).bind λys μ1 => .ok (.box ys) μ1:=(rfl)
def cell(t:T)(μ:ag):R SV:=.ok (.cel μ.length) (μ++[(true,t)])
def dP(d:D):D:=λe μ=>(d e μ).bind λx μ1=>match x with
 | .val t=>cell t μ1
 | .cel k => .ok (.cel k) μ1
 | .box xs => .ok (.box xs) μ1
def toCell(x:SV)(μ:ag):R SV:=match x with
 | .val t=>cell t μ
 | .cel k => .ok (.cel k) μ
 | .box xs => .ok (.box xs) μ
@[simp] theorem toCell_val(t:T)(μ:ag):toCell (.val t) μ = .ok (.cel μ.length) (μ++[(true,t)]):=(rfl)
@[simp] theorem tj(d:D)(e:Slots)(μ:ag):dP d e μ=(d e μ).bind toCell:=by
 unfold dP toCell;rfl
noncomputable abbrev FN := List SV → ag → R SV
def aB(f:FN)(ds:List D):D:=λe μ=>(eT ds e μ).bind λxs μ1=>f xs μ1
@[simp] theorem iw(f:FN)(ds:List D)(e:Slots)(μ:ag):aB f ds e μ=(eT ds e μ).bind λxs μ1=>f xs μ1:=(rfl)
def cal(f:FN):FN:=λxs μ=>(f xs μ).calm
@[simp] theorem lY(f:FN)(xs:List SV)(μ:ag):cal f xs μ=(f xs μ).calm:=(rfl)
def ixN(n:Nat)(i:Int):Option Nat:=if 0≤i then (if i<n then some i.toNat else none) else if -(n:Int)≤i then some (i+n).toNat else none
def atI{α:Type}(xs:List α)(i:Int):Option α:=(ixN xs.length i).bind λj=>xs[j]?
def sIx(n d:Nat):Option Int→Nat
 | none=>d
 | some v=>if v<0 then (v+(n:Int)).toNat else min v.toNat n
def bD:T→T→Option T
 | .int i,.int j=>some (.int (i+j))
 | .str x,.str y=>if x.length+y.length≤szL then some (.str (x++y)) else none
 | .tup xs,.tup ys=>if xs.length+ys.length≤szL then some (.tup (xs++ys)) else none
 | .lst xs,.lst ys=>if xs.length+ys.length≤szL then some (.lst (xs++ys)) else none
 | _,_=>none
theorem Fp(xs ys:List T)(h:xs.length+ys.length≤szL):bD (.tup xs) (.tup ys)=some (.tup (xs++ys)):=if_pos h
theorem jo(xs ys:List T)(h:xs.length+ys.length≤szL):bD (.lst xs) (.lst ys)=some (.lst (xs++ys)):=if_pos h
@[simp] theorem yR(i j:Int):bD (.int i) (.int j)=some (.int (i+j)):=(rfl)
def oq:T→T→Option T
 | .lst xs,.int k=>if -(2 ^ 63)≤k∧k<2 ^ 63∧xs.length*k.toNat≤szL then some (.lst (List.replicate k.toNat xs).flatten) else none
 | _,_=>none
def vf:T→T→Option T
 | .int i,.int j=>some (.int (i-j))
 | _,_=>none
@[simp] theorem Fq(i j:Int):vf (.int i) (.int j)=some (.int (i-j)):=(rfl)
def LY:T→T→Option T
 | .int i,.int j=>if (-(2 ^ 64)<i∧i<2 ^ 64)∨(-(2 ^ 64)<j∧j<2 ^ 64) then some (.int (i*j)) else none
 | _,_=>none
def aM(t u:T):Option T:=LY t u
theorem LZ(i j:Int)(h1:-18446744073709551616<i)(h2:i<18446744073709551616):LY (.int i) (.int j)=some (.int (i*j)):=if_pos (.inl ⟨h1,h2⟩)
theorem L0(i j:Int)(h1:-18446744073709551616<j)(h2:j<18446744073709551616):LY (.int i) (.int j)=some (.int (i*j)):=if_pos (.inr ⟨h1,h2⟩)
@[simp] theorem ib(i j:Int)(h1:-18446744073709551616<i)(h2:i<18446744073709551616):aM (.int i) (.int j)=some (.int (i*j)):=LZ i j h1 h2
@[simp] theorem i4(i j:Int)(h1:-18446744073709551616<j)(h2:j<18446744073709551616):aM (.int i) (.int j)=some (.int (i*j)):=L0 i j h1 h2
def aL:T→T→Option T
 | .int i,.int j=>if 0<j then some (.int (i%j)) else none
 | _,_=>none
@[simp] theorem cx(i j:Int)(h:0<j):aL (.int i) (.int j)=some (.int (i%j)):=if_pos h
def d_:T→T→Option T
 | .int i,.int j=>if 0<j∧j<1073741824 then some (.int (i / j)) else none
 | _,_=>none
@[simp] theorem tq(i j:Int)(h:0<j)(h2:j<1073741824):d_ (.int i) (.int j)=some (.int (i / j)):=if_pos ⟨h,h2⟩
def IG:T→T→Option T
 | .int i,.int j=>if 0≤j∧j≤1000 ∧ -(2 ^ 64)<i∧i<2 ^ 64 then some (.int (i ^ j.toNat)) else none
 | _,_=>none
def Dm:T→T→Option T
 | .int i,.int j=>if 0≤j∧j≤64 then some (.int (i / 2 ^ j.toNat)) else none
 | _,_=>none
def tw:T→Option T
 | .int i=>some (.int (-i))
 | _=>none
@[simp] theorem Fs(i:Int):tw (.int i)=some (.int (-i)):=(rfl)
def fLt:T→T→Option T
 | .int i,.int j=>some (.bl (decide (i<j)))
 | _,_=>none
def fLe:T→T→Option T
 | .int i,.int j=>some (.bl (decide (i≤j)))
 | _,_=>none
def fGt:T→T→Option T
 | .int i,.int j=>some (.bl (decide (j<i)))
 | _,_=>none
def fGe:T→T→Option T
 | .int i,.int j=>some (.bl (decide (j≤i)))
 | _,_=>none
@[simp] theorem IH(i j:Int):fLt (.int i) (.int j)=some (.bl (decide (i<j))):=(rfl)
@[simp] theorem II(i j:Int):fLe (.int i) (.int j)=some (.bl (decide (i≤j))):=(rfl)
@[simp] theorem IJ(i j:Int):fGt (.int i) (.int j)=some (.bl (decide (j<i))):=(rfl)
@[simp] theorem IK(i j:Int):fGe (.int i) (.int j)=some (.bl (decide (j≤i))):=(rfl)
mutual
def eqT:T→T→Bool
 | .non,.non=>true
 | .bl a,.bl b=>a==b
 | .bl a,.int b=>(if a then 1 else 0)==b
 | .int a,.bl b=>a==(if b then 1 else 0)
 | .int a,.int b=>a==b
 | .str a,.str b=>a==b
 | .lst a,.lst b=>j4 a b
 | .tup a,.tup b=>j4 a b
 | _,_=>false
def j4:List T→List T→Bool
 | [],[]=>true
 | a::as,b::bs=>eqT a b && j4 as bs
 | [],_::_=>false
 | _::_,[]=>false
end
mutual
def okT:Nat→T→Bool
 | _,.non=>true
 | _,.bl _=>true
 | _,.int _=>true
 | _,.str x=>x.cps.all (·<1114112)
 | 0,.lst _=>false
 | n+1,.lst ts=>kg n ts
 | 0,.tup _=>false
 | n+1,.tup ts=>kg n ts
 | _,.dct _=>false
 | _,.exc _ _=>false
def kg:Nat→List T→Bool
 | _,[]=>true
 | n,t::ts=>okT n t && kg n ts
end
def fEq(t u:T):Option T:=match t,u with
 | .str a,.str b=>some (.bl (a==b))
 | t,u=>if okT 100 t=true∧okT 100 u=true then some (.bl (eqT t u)) else none
def fNe(t u:T):Option T:=match t,u with
 | .str a,.str b=>some (.bl (!(a==b)))
 | t,u=>if okT 100 t=true∧okT 100 u=true then some (.bl (!eqT t u)) else none
@[simp] theorem Qk(n:Nat)(i:Int):okT n (.int i)=true:=by unfold okT;rfl
@[simp] theorem pI(n:Nat)(ts:List T):okT (n+1) (.lst ts)=kg n ts:=by rw[okT]
@[simp] theorem Ql(n:Nat)(ts:List T):okT (n+1) (.tup ts)=kg n ts:=by rw[okT]
@[simp] theorem yS(n:Nat):kg n []=true:=by rw[kg]
@[simp] theorem kh(n:Nat)(t:T)(ts:List T):kg n (t::ts)=(okT n t && kg n ts):=by rw[kg]
theorem tx(n:Nat):∀ts:List T,kg n ts=true↔∀t∈ts,okT n t=true
 | []=>by simp
 | t::ts=>by simp[tx n ts]
@[simp] theorem v9(n:Nat)(ns:List Int):kg n (ns.map T.int)=true:=by
 rw[tx]
 intro t ht
 obtain⟨i,_,rfl⟩:=List.mem_map.mp ht
 simp
@[simp] theorem B0(i j:Int):eqT (.int i) (.int j)=(i==j):=by rw[eqT]
@[simp] theorem Qm(i j:Str):eqT (.str i) (.str j)=(i==j):=by rw[eqT]
@[simp] theorem QX(i j:Bool):eqT (.bl i) (.bl j)=(i==j):=by rw[eqT]
@[simp] theorem Qn:eqT .non .non=true:=by rw[eqT]
@[simp] theorem B1(i j:List T):eqT (.lst i) (.lst j)=j4 i j:=by rw[eqT]
@[simp] theorem IL(i j:List T):eqT (.tup i) (.tup j)=j4 i j:=by rw[eqT]
@[simp] theorem Ft:j4 [] []=true:=by rw[j4]
@[simp] theorem Nt(a b:T)(as bs:List T):j4 (a::as) (b::bs)=(eqT a b && j4 as bs):=by rw[j4]
@[simp] theorem Qo(b:T)(bs:List T):j4 [] (b::bs)=false:=by rw[j4]
@[simp] theorem IM(b:T)(bs:List T):j4 (b::bs) []=false:=by rw[j4]
mutual
theorem yT:∀(n:Nat) (t:T),okT n t=true→eqT t t=true
 | n,.non,_=>by simp
 | n,.bl b,_=>by simp
 | n,.int i,_=>by simp
 | n,.str x,_=>by simp
 | 0,.lst ts,h=>by rw[okT] at h;cases h
 | n+1,.lst ts,h=>by simp only[B1];exact qm n ts (by simpa using h)
 | 0,.tup ts,h=>by rw[okT] at h;cases h
 | n+1,.tup ts,h=>by simp only[IL];exact qm n ts (by simpa using h)
 | n,.dct _,h=>by unfold okT at h;cases h
 | n,.exc _ _,h=>by unfold okT at h;cases h
theorem qm:∀(n:Nat) (ts:List T),kg n ts=true→j4 ts ts=true
 | n,[],_=>by simp
 | n,t::ts,h=>by
  simp only[kh,Bool.and_eq_true] at h
  simp[yT n t h.1,qm n ts h.2]
end
theorem ng:∀(xs ys:List Int),j4 (xs.map T.int) (ys.map T.int)=(xs==ys)
 | [],[]=>by simp
 | [],y::ys=>by simp
 | x::xs,[]=>by simp
 | x::xs,y::ys=>by simp[ng xs ys]
theorem xc{t u:T}(h1:okT 100 t=true)(h2:okT 100 u=true):fEq t u=some (.bl (eqT t u)):=by
 unfold fEq
 split
 ·simp
 ·rw[if_pos ⟨h1,h2⟩]
theorem AF{t u:T}(h1:okT 100 t=true)(h2:okT 100 u=true):fNe t u=some (.bl (!eqT t u)):=by
 unfold fNe
 split
 ·simp
 ·rw[if_pos ⟨h1,h2⟩]
@[simp] theorem IP(i j:Int):fEq (.int i) (.int j)=some (.bl (i==j)):=by rw[xc (by simp) (by simp)];simp
@[simp] theorem pJ(i j:Int):fNe (.int i) (.int j)=some (.bl (!(i==j))):=by rw[AF (by simp) (by simp)];simp
@[simp] theorem IQ(i j:Str):fEq (.str i) (.str j)=some (.bl (i==j)):=(rfl)
@[simp] theorem IS(i j:Str):fNe (.str i) (.str j)=some (.bl (!(i==j))):=(rfl)
@[simp] theorem tE(xs ys:List Int):fEq (.lst (xs.map T.int)) (.lst (ys.map T.int))=some (.bl (xs==ys)):=by rw[xc (by simp) (by simp)];simp[ng]
@[simp] theorem tG(xs ys:List Int):fNe (.lst (xs.map T.int)) (.lst (ys.map T.int))=some (.bl (!(xs==ys))):=by rw[AF (by simp) (by simp)];simp[ng]
@[simp] theorem Dn(xs ys:List Int):fEq (.tup (xs.map T.int)) (.tup (ys.map T.int))=some (.bl (xs==ys)):=by rw[xc (by simp) (by simp)];simp[ng]
def tH:T→Option T
 | .non=>some (.bl true)
 | _=>some (.bl false)
def L1:T→T→Option T
 | .lst xs,.int i=>atI xs i
 | .tup xs,.int i=>atI xs i
 | .str x,.int i=>if x.length≤szL then (atI x.cps.toList i).map λc => .str ⟨#[c]⟩ else none
 | _,_=>none
def pick:Sum T Nat→SV
 | .inl t => .val t
 | .inr k => .cel k
def j5(μ:ag)(x:SV)(u:T):Option SV:=match x,u with
 | .box xs,.int i=>(atI xs i).map pick
 | .box _,_=>none
 | x,u=>ap1 (λt=>L1 t u) (rd μ x)
def aF(a b:D):D:=λe μ=>(a e μ).bind λx μ1=>(b e μ1).bind λy μ2=>R.lift ((rd μ2 y).bind λu=>j5 μ2 x u) μ2
@[simp] theorem kK(a b:D)(e:Slots)(μ:ag):aF a b e μ=(a e μ).bind λx μ1=>(b e μ1).bind λy μ2=>R.lift ((rd μ2 y).bind λu=>j5 μ2 x u) μ2:=(rfl)
@[simp] theorem lZ(μ:ag)(xs:List T)(i:Int):j5 μ (.val (.lst xs)) (.int i)=(atI xs i).map SV.val:=(rfl)
@[simp] theorem pK(μ:ag)(xs:List T)(i:Int):j5 μ (.val (.tup xs)) (.int i)=(atI xs i).map SV.val:=(rfl)
@[simp] theorem Fu(μ:ag)(xs:List (Sum T Nat))(i:Int):j5 μ (.box xs) (.int i)=(atI xs i).map pick:=(rfl)
@[simp] theorem Fv(μ:ag)(k:Nat)(u:T):j5 μ (.cel k) u=ap1 (λt=>L1 t u) (rd μ (.cel k)):=(rfl)
def L3:T→Option T
 | .lst xs=>some (.int xs.length)
 | .tup xs=>some (.int xs.length)
 | .str x=>if x.length≤szL then some (.int x.length) else none
 | .dct kts=>some (.int kts.length)
 | _=>none
def rY(μ:ag):SV→Option T
 | .box xs=>some (.int xs.length)
 | x=>(rd μ x).bind L3
def fz(a:D):D:=λe μ=>(a e μ).bind λx μ1=>R.lift ((rY μ1 x).map SV.val) μ1
@[simp] theorem B3(a:D)(e:Slots)(μ:ag):fz a e μ=(a e μ).bind λx μ1=>R.lift ((rY μ1 x).map SV.val) μ1:=(rfl)
@[simp] theorem Fx(μ:ag)(xs:List T):rY μ (.val (.lst xs))=some (.int xs.length):=(rfl)
@[simp] theorem Fy(μ:ag)(xs:List T):rY μ (.val (.tup xs))=some (.int xs.length):=(rfl)
@[simp] theorem Fz(μ:ag)(k:Nat):rY μ (.cel k)=(rd μ (.cel k)).bind L3:=(rfl)
inductive Kd where
 | int|bool|str|list|tuple|dict
def isK:Kd→T→Bool
 | .int,.int _=>true
 | .int,.bl _=>true
 | .bool,.bl _=>true
 | .str,.str _=>true
 | .list,.lst _=>true
 | .tuple,.tup _=>true
 | .dict,.dct _=>true
 | _,_=>false
def isT(k:Kd):T→Option T
 | .exc _ _=>none
 | t=>some (.bl (isK k t))
def isS(k:Kd)(μ:ag):SV→Option T
 | .box _=>some (.bl (isK k (.tup [])))
 | x=>(rd μ x).bind (isT k)
@[simp] theorem Qp(k:Kd)(i:Int):isT k (.int i)=some (.bl (isK k (.int i))):=(rfl)
def dIs(k:Kd)(a:D):D:=λe μ=>(a e μ).bind λx μ1=>R.lift ((isS k μ1 x).map SV.val) μ1
@[simp] theorem tI(k:Kd)(a:D)(e:Slots)(μ:ag):dIs k a e μ=(a e μ).bind λx μ1=>R.lift ((isS k μ1 x).map SV.val) μ1:=(rfl)
@[simp] theorem Qq(k:Kd)(μ:ag)(t:T):isS k μ (.val t)=isT k t:=(rfl)
@[simp] theorem B4(k:Kd)(μ:ag)(j:Nat):isS k μ (.cel j)=(rd μ (.cel j)).bind (isT k):=(rfl)
def eZ:T→Option T
 | .lst xs=>some (.tup xs)
 | .tup xs=>some (.tup xs)
 | _=>none
@[simp] theorem ot(xs:List T):eZ (.lst xs)=some (.tup xs):=(rfl)
@[simp] theorem AG(xs:List T):eZ (.tup xs)=some (.tup xs):=(rfl)
def lJ:T→Option T
 | .lst xs=>some (.lst xs)
 | .tup xs=>some (.lst xs)
 | _=>none
def yU:Key→T
 | .inl i => .int i
 | .inr x => .str x
def B5:T→Option T
 | .dct kts=>some (.lst (kts.map λp=>yU p.1))
 | _=>none
@[simp] theorem qo(xs:List T):lJ (.lst xs)=some (.lst xs):=(rfl)
def jq{α:Type}(xs:List α)(lo hi:Option Int):List α:=(xs.drop (sIx xs.length 0 lo)).take (sIx xs.length xs.length hi-sIx xs.length 0 lo)
def l_:T→Option Int
 | .int i=>some i
 | _=>none
@[simp] theorem qp(i:Int):l_ (.int i)=some i:=(rfl)
def ou:List T→Option (List Int)
 | []=>some []
 | t::ts=>(l_ t).bind λi=>(ou ts).map λis=>i::is
theorem AH(ns:List Int):ou (ns.map T.int)=some ns:=by
 induction ns with
 | nil=>rfl
 | cons n ns ih=>simp[ou,ih]
def ma:T→Option T
 | .lst xs=>(ou xs).map λis => .int is.sum
 | _=>none
@[simp] theorem Dp(ns:List Int):ma (.lst (ns.map T.int))=some (.int ns.sum):=by simp[ma,AH]
def tJ:List T→Option (List Bool)
 | []=>some []
 | .bl b::ts=>(tJ ts).map λbs=>b::bs
 | _::_=>none
theorem Dq(bs:List Bool):tJ (bs.map T.bl)=some bs:=by
 induction bs with
 | nil=>rfl
 | cons n ns ih=>simp[tJ,ih]
def yV:T→Option T
 | .lst xs=>(tJ xs).map λbs => .bl (bs.all id)
 | _=>none
@[simp] theorem FA(bs:List Bool):yV (.lst (bs.map T.bl))=some (.bl (bs.all id)):=by simp[yV,Dq]
def FC:T→Option T
 | .non=>some (.bl false)
 | _=>some (.bl true)
@[simp] theorem Nu:tH .non=some (.bl true):=(rfl)
@[simp] theorem Dr(i:Int):tH (.int i)=some (.bl false):=(rfl)
@[simp] theorem AI:FC .non=some (.bl false):=(rfl)
@[simp] theorem AJ(i:Int):FC (.int i)=some (.bl true):=(rfl)
def tK(f g:T→T→Option T)(a b c:D):D:=λe μ=>(a e μ).bind λx μ1=>(b e μ1).bind λy μ2 =>
 (R.lift (ap2 f (rd μ2 x) (rd μ2 y)) μ2).bind λw μ2=>(R.lift (asB w) μ2).bind λk μ2 =>
 if k=true then (c e μ2).bind λz μ3=>R.lift (ap2 g (rd μ3 y) (rd μ3 z)) μ3 else .ok (.val (.bl false)) μ2
@[simp] theorem Nv(f g:T→T→Option T)(a b c:D)(e:Slots)(μ:ag):tK f g a b c e μ=(a e μ).bind λx μ1=>(b e μ1).bind λy μ2 =>
 (R.lift (ap2 f (rd μ2 x) (rd μ2 y)) μ2).bind λw μ2=>(R.lift (asB w) μ2).bind λk μ2 =>
 if k=true then (c e μ2).bind λz μ3=>R.lift (ap2 g (rd μ3 y) (rd μ3 z)) μ3 else .ok (.val (.bl false)) μ2:=(rfl)
def Dt(t:T)(lo hi:Option Int):Option T:=match t with
 | .lst xs=>some (.lst (jq xs lo hi))
 | .tup xs=>if sIx xs.length 0 lo=0∧sIx xs.length xs.length hi=xs.length then none else some (.tup (jq xs lo hi))
 | _=>none
def AK(o:Option D)(e:Slots)(μ:ag):R (Option Int):=match o with
 | none => .ok none μ
 | some d=>(d e μ).bind λx μ1=>(R.lift ((rd μ1 x).bind l_) μ1).bind λi μ1 => .ok (some i) μ1
@[simp] theorem nh(e:Slots)(μ:ag):AK none e μ = .ok none μ:=(rfl)
@[simp] theorem ni(d:D)(e:Slots)(μ:ag):AK (some d) e μ=(d e μ).bind λx μ1=>(R.lift ((rd μ1 x).bind l_) μ1).bind λi μ1 => .ok (some i) μ1:=(rfl)
def yW(a:D)(lo hi:Option D):D:=λe μ=>(a e μ).bind λx μ1=>(AK lo e μ1).bind λl μ2=>(AK hi e μ2).bind λh μ3=>R.lift (ap1 (λt=>Dt t l h) (rd μ3 x)) μ3
@[simp] theorem sC(a:D)(lo hi:Option D)(e:Slots)(μ:ag):yW a lo hi e μ=(a e μ).bind λx μ1=>(AK lo e μ1).bind λl μ2=>(AK hi e μ2).bind λh μ3=>R.lift (ap1 (λt=>Dt t l h) (rd μ3 x)) μ3:=(rfl)
inductive RS where
 | nx (e:Slots) (μ:ag)|rt (x:SV) (μ:ag)|bk (e:Slots) (μ:ag)|ct (e:Slots) (μ:ag)|err (c:T) (e:Slots) (μ:ag)|bad
noncomputable abbrev DS := Slots → ag → RS
def R.toS{α:Type}(x:R α)(e:Slots)(f:α→ag→RS):RS:=match x with
 | .ok a μ=>f a μ
 | .err c μ => .err c e μ
 | .bad => .bad
@[simp] theorem R.toS_ok{α:Type}(a:α)(e:Slots)(μ:ag)(f:α→ag→RS):(R.ok a μ).toS e f=f a μ:=(rfl)
@[simp] theorem R.toS_err{α:Type}(c:T)(e:Slots)(μ:ag)(f:α→ag→RS):(R.err c μ:R α).toS e f = .err c e μ:=(rfl)
def RS.seq(r:RS)(f:Slots→ag→RS):RS:=match r with
 | .nx e μ=>f e μ
 | r=>r
@[simp] theorem RS.cD(e:Slots)(μ:ag)(f:Slots→ag→RS):(RS.nx e μ).seq f=f e μ:=(rfl)
@[simp] theorem RS.L4(x:SV)(μ:ag)(f:Slots→ag→RS):(RS.rt x μ).seq f = .rt x μ:=(rfl)
def dA:DS:=λe μ => .nx e μ
def aA(a b:DS):DS:=λe μ=>(a e μ).seq b
def yX(d:D):DS:=λe μ=>(d e μ).toS e λ_ μ1 => .nx e μ1
def aE(i:Nat)(d:D):DS:=λe μ=>(d e μ).toS e λx μ1 => .nx (e.set i (some x)) μ1
def aS(d:D):DS:=λe μ=>(d e μ).toS e λx μ1 => .rt x μ1
def sIf(c:D)(a b:DS):DS:=λe μ=>(c e μ).toS e λx μ1=>(R.lift (asB x) μ1).toS e λk μ1=>if k=true then a e μ1 else b e μ1
def tL:DS:=λ_ _ => .bad
@[simp] theorem IT(e:Slots)(μ:ag):dA e μ = .nx e μ:=(rfl)
@[simp] theorem gg(a b:DS)(e:Slots)(μ:ag):aA a b e μ=(a e μ).seq b:=(rfl)
@[simp] theorem FD(d:D)(e:Slots)(μ:ag):yX d e μ=(d e μ).toS e λ_ μ1 => .nx e μ1:=(rfl)
@[simp] theorem kL(i:Nat)(d:D)(e:Slots)(μ:ag):aE i d e μ=(d e μ).toS e λx μ1 => .nx (e.set i (some x)) μ1:=(rfl)
@[simp] theorem xf(d:D)(e:Slots)(μ:ag):aS d e μ=(d e μ).toS e λx μ1 => .rt x μ1:=(rfl)
@[simp] theorem AL(c:D)(a b:DS)(e:Slots)(μ:ag):sIf c a b e μ=(c e μ).toS e λx μ1=>(R.lift (asB x) μ1).toS e λk μ1=>if k=true then a e μ1 else b e μ1:=(rfl)
def appendAt(x:SV)(t:T)(μ:ag):Option ag:=match x with
 | .cel k=>match μ[k]? with
  | some (true,.lst ts)=>if ts.length<szL then some (μ.set k (true,.lst (ts++[t]))) else none
  | _=>none
 | _=>none
def qq(x:SV)(μ:ag):Option Unit:=match x with
 | .cel k=>match μ[k]? with
  | some (_,.lst _)=>some ()
  | _=>none
 | _=>none
theorem nj{μ:ag}{k:Nat}{b:Bool}{ts:List T}(h:μ[k]?=some (b,.lst ts)):qq (.cel k) μ=some ():=by unfold qq;simp only[h]
def cu(o d:D):DS:=λe μ=>(o e μ).toS e λx μ0=>(R.lift (qq x μ0) μ0).toS e λ_ μ0=>(d e μ0).toS e λy μ1=>(frz y μ1).toS e λt μ2=>(R.lift (appendAt x t μ2) μ2).toS e λμ3 _ => .nx e μ3
@[simp] theorem tM(o d:D)(e:Slots)(μ:ag):cu o d e μ=(o e μ).toS e λx μ0=>(R.lift (qq x μ0) μ0).toS e λ_ μ0=>(d e μ0).toS e λy μ1=>(frz y μ1).toS e λt μ2=>(R.lift (appendAt x t μ2) μ2).toS e λμ3 _ => .nx e μ3:=(rfl)
def setAt(x:SV)(k:T)(t:T)(μ:ag):Option ag:=match x,k with
 | .cel c,.int i=>match μ[c]? with
  | some (true,.lst ts)=>(ixN ts.length i).map λj=>μ.set c (true,.lst (ts.set j t))
  | _=>none
 | _,_=>none
def dQ(i:Nat)(dk dv:D):DS:=λe μ=>(dv e μ).toS e λy μ1=>(R.lift (slot e i) μ1).toS e λx μ1=>(dk e μ1).toS e λz μ2=>(R.lift (rd μ2 z) μ2).toS e λk μ2 =>
 (frz y μ2).toS e λt μ3=>(R.lift (setAt x k t μ3) μ3).toS e λμ4 _ => .nx e μ4
@[simp] theorem rF(i:Nat)(dk dv:D)(e:Slots)(μ:ag):dQ i dk dv e μ=(dv e μ).toS e λy μ1=>(R.lift (slot e i) μ1).toS e λx μ1=>(dk e μ1).toS e λz μ2=>(R.lift (rd μ2 z) μ2).toS e λk μ2 =>
 (frz y μ2).toS e λt μ3=>(R.lift (setAt x k t μ3) μ3).toS e λμ4 _ => .nx e μ4:=(rfl)
structure Wk where
 items:List T
 same:ag→Prop
noncomputable abbrev DI := Slots → ag → R Wk
def bw:T→Option (List T)
 | .lst ts=>some ts
 | .tup ts=>some ts
 | _=>none
@[simp] theorem i5(ts:List T):bw (.lst ts)=some ts:=(rfl)
@[simp] theorem xg(ts:List T):bw (.tup ts)=some ts:=(rfl)
def h7(d:D):DI:=λe μ=>(d e μ).bind λx μ1=>(R.lift ((rd μ1 x).bind bw) μ1).bind λts μ1 => .ok ⟨ts,λμ'=>rd μ' x=rd μ1 x⟩ μ1
@[simp] theorem xh(d:D)(e:Slots)(μ:ag):h7 d e μ=(d e μ).bind λx μ1=>(R.lift ((rd μ1 x).bind bw) μ1).bind λts μ1 => .ok ⟨ts,λμ'=>rd μ' x=rd μ1 x⟩ μ1:=(rfl)
def bW(lo:Int):Nat→List T
 | 0=>[]
 | n+1 => .int lo::bW (lo+1) n
def fh(j:Int):Bool:=decide (-(2 ^ 62)≤j) && decide (j<2 ^ 62)
@[simp] theorem eB{j:Int}(h0:0≤j)(h1:j≤1000000):fh j=true:=by
 unfold fh
 rw[decide_eq_true (by lia),decide_eq_true (by lia)];rfl
theorem Du{j:Int}(h:fh j=true):-(2 ^ 62)≤j∧j<2 ^ 62:=by
 unfold fh at h
 simp only[Bool.and_eq_true,decide_eq_true_eq] at h
 exact h
def bx(d:D):DI:=λe μ=>(d e μ).bind λx μ1=>(R.lift ((rd μ1 x).bind l_) μ1).bind λj μ1=>if fh j=true then .ok ⟨bW 0 j.toNat,λ_=>True⟩ μ1 else .bad
def IU(d d':D):DI:=λe μ=>(d e μ).bind λx μ1=>(d' e μ1).bind λy μ2=>(R.lift ((rd μ2 x).bind l_) μ2).bind λi μ2=>(R.lift ((rd μ2 y).bind l_) μ2).bind λj μ2 =>
 if (fh i && fh j)=true then .ok ⟨bW i (j-i).toNat,λ_=>True⟩ μ2 else .bad
@[simp] theorem tN(d:D)(e:Slots)(μ:ag):bx d e μ=(d e μ).bind λx μ1=>(R.lift ((rd μ1 x).bind l_) μ1).bind λj μ1=>if fh j=true then .ok ⟨bW 0 j.toNat,λ_=>True⟩ μ1 else .bad:=(rfl)
@[simp] theorem AM(d d':D)(e:Slots)(μ:ag):IU d d' e μ=(d e μ).bind λx μ1=>(d' e μ1).bind λy μ2=>(R.lift ((rd μ2 x).bind l_) μ2).bind λi μ2=>(R.lift ((rd μ2 y).bind l_) μ2).bind λj μ2 =>
 if (fh i && fh j)=true then .ok ⟨bW i (j-i).toNat,λ_=>True⟩ μ2 else .bad:=(rfl)
def fA:List T→List T→List T
 | t::ts,u::us => .tup [t,u]::fA ts us
 | _,_=>[]
def me(d d':D):DI:=λe μ=>(d e μ).bind λx μ1=>(d' e μ1).bind λy μ2=>(R.lift ((rd μ2 x).bind bw) μ2).bind λts μ2=>(R.lift ((rd μ2 y).bind bw) μ2).bind λus μ2 =>
 .ok ⟨fA ts us,λμ'=>rd μ' x=rd μ2 x∧rd μ' y=rd μ2 y⟩ μ2
@[simp] theorem IV(d d':D)(e:Slots)(μ:ag):me d d' e μ=(d e μ).bind λx μ1=>(d' e μ1).bind λy μ2=>(R.lift ((rd μ2 x).bind bw) μ2).bind λts μ2=>(R.lift ((rd μ2 y).bind bw) μ2).bind λus μ2 =>
 .ok ⟨fA ts us,λμ'=>rd μ' x=rd μ2 x∧rd μ' y=rd μ2 y⟩ μ2:=(rfl)
noncomputable abbrev BD := T → Slots → Option Slots
def aN(i:Nat):BD:=λt e=>some (e.set i (some (.val t)))
def b4(is:List Nat):BD:=λt e=>match t with
 | .tup ts=>if ts.length=is.length then some ((is.zip ts).foldl (λe p=>e.set p.1 (some (.val p.2))) e) else none
 | _=>none
@[simp] theorem mf(i:Nat)(t:T)(e:Slots):aN i t e=some (e.set i (some (.val t))):=(rfl)
@[simp] theorem dB(i j:Nat)(t u:T)(e:Slots):b4 [i,j] (.tup [t,u]) e=some ((e.set i (some (.val t))).set j (some (.val u))):=(rfl)
open Classical in
def forL(same:ag→Prop)(b:BD)(body:DS):List T→Slots→ag→RS
 | [],e,μ=>if same μ then .nx e μ else .bad
 | t::ts,e,μ=>if same μ then
   match b t e with
   | none => .bad
   | some e1=>match body e1 μ with
    | .nx e2 μ2=>forL same b body ts e2 μ2
    | .ct e2 μ2=>forL same b body ts e2 μ2
    | .bk e2 μ2 => .nx e2 μ2
    | r=>r
  else .bad
def eL(it:DI)(b:BD)(body:DS):DS:=λe μ=>(it e μ).toS e λW μ1=>forL W.same b body W.items e μ1
@[simp] theorem nq(it:DI)(b:BD)(body:DS)(e:Slots)(μ:ag):eL it b body e μ=(it e μ).toS e λW μ1=>forL W.same b body W.items e μ1:=(rfl)
def dJ(c:D)(body:DS):Nat→Slots→ag→RS
 | 0,_,_ => .bad
 | n+1,e,μ=>(c e μ).toS e λx μ1=>(R.lift (asB x) μ1).toS e λk μ1=>if k=true then
   match body e μ1 with
   | .nx e2 μ2=>dJ c body n e2 μ2
   | .ct e2 μ2=>dJ c body n e2 μ2
   | .bk e2 μ2 => .nx e2 μ2
   | r=>r
  else .nx e μ1
open Classical in
def kM(c:D)(body:DS):DS:=λe μ=>if h:∃n,dJ c body n e μ ≠ .bad then dJ c body h.choose e μ else .bad
open Classical in
def cy(same:ag→Prop)(b:BD)(c:D)(d:D)(e:Slots):List T→ag→R (List T)
 | [],μ=>if same μ then .ok [] μ else .bad
 | t::ts,μ=>if same μ then
   match b t e with
   | none => .bad
   | some e1=>(c e1 μ).calm.bind λx μ1=>(R.lift (asB x) μ1).bind λk μ1 =>
    if k=true then (d e1 μ1).calm.bind λy μ2=>(frz y μ2).bind λu μ3=>(cy same b c d e ts μ3).bind λus μ4 => .ok (u::us) μ4
    else cy same b c d e ts μ1
  else .bad
def ini(mp:List (Option Nat))(e:Slots):Slots:=mp.map λo=>o.bind λj=>slot e j
def br(it:DI)(mp:List (Option Nat))(b:BD)(c:D)(d:D):D:=λe μ=>(it e μ).bind λW μ1=>(cy W.same b c d (ini mp e) W.items μ1).calm.bind λus μ2 =>
 if W.items.length≤szL then .ok (.val (.lst us)) μ2 else .bad
@[simp] theorem FE(it:DI)(mp:List (Option Nat))(b:BD)(c:D)(d:D)(e:Slots)(μ:ag):br it mp b c d e μ=(it e μ).bind λW μ1=>(cy W.same b c d (ini mp e) W.items μ1).calm.bind λus μ2 =>
 if W.items.length≤szL then .ok (.val (.lst us)) μ2 else .bad:=(rfl)
@[simp] theorem IW(e:Slots):ini [] e=[]:=(rfl)
@[simp] theorem FF(mp:List (Option Nat))(e:Slots):ini (none::mp) e=none::ini mp e:=(rfl)
@[simp] theorem FG(j:Nat)(mp:List (Option Nat))(e:Slots):ini (some j::mp) e=slot e j::ini mp e:=(rfl)
def gc(n:Nat)(x:SV)(μ:ag):R SV:=match x with
 | .val t => .ok (.val t) (μ.take n)
 | .cel k=>if k<n then .ok (.cel k) (μ.take n) else match μ[k]? with
  | some c => .ok (.cel n) (μ.take n++[c])
  | none => .bad
 | .box _ => .bad
def starts(m:Nat)(xs:List SV):Slots:=xs.map some++List.replicate (m-xs.length) none
def RS.L5(n:Nat):RS→R SV
 | .rt x μ'=>gc n x μ'
 | .nx _ μ'=>gc n (.val .non) μ'
 | .err c _ μ' => .err c (μ'.take n)
 | _ => .bad
def fnD(m:Nat)(body:DS):FN:=λxs μ=>(body (starts m xs) μ).L5 μ.length
def ice(n:Nat)(x:SV)(μ:ag):R SV:=(frz x μ).bind λt μ1 => .ok (.val t) (μ1.take n)
def RS.yY(n:Nat):RS→R SV
 | .rt x μ'=>ice n x μ'
 | .nx _ μ'=>ice n (.val .non) μ'
 | .err c _ μ' => .err c (μ'.take n)
 | _ => .bad
def fnV(m:Nat)(body:DS):FN:=λxs μ=>(body (starts m xs) μ).yY μ.length
def RS.xi:RS→R SV
 | .rt x μ' => .ok x μ'
 | .nx _ μ' => .ok (.val .non) μ'
 | .err c _ μ' => .err c μ'
 | _ => .bad
def fnK(m:Nat)(body:DS):FN:=λxs μ=>(body (starts m xs) μ).xi
@[simp] theorem sD(n:Nat)(x:SV)(μ:ag):(RS.rt x μ).yY n=ice n x μ:=(rfl)
@[simp] theorem B6(n:Nat)(x:SV)(μ:ag):(RS.rt x μ).L5 n=gc n x μ:=(rfl)
@[simp] theorem B7(x:SV)(μ:ag):(RS.rt x μ).xi = .ok x μ:=(rfl)
@[simp] theorem b9(m:Nat)(body:DS)(xs:List SV)(μ:ag):fnV m body xs μ=(body (starts m xs) μ).yY μ.length:=(rfl)
@[simp] theorem mh(m:Nat)(body:DS)(xs:List SV)(μ:ag):fnD m body xs μ=(body (starts m xs) μ).L5 μ.length:=(rfl)
@[simp] theorem mi(m:Nat)(body:DS)(xs:List SV)(μ:ag):fnK m body xs μ=(body (starts m xs) μ).xi:=(rfl)
end Fw
namespace Fw
open PySem L2
def ExcAt(K:PySem.W.Frag)(a:Addr)(c:Str)(t:Option Str)(h:Heap):Prop:=∃C,PySem.W.nsIn K mainGlobals c=some (some (.ref C))∧j0 a C h
section
variable(K:PySem.W.Frag)(F:Hp)
mutual
def Rep:T→V→Prop
 | .non,v=>v = .non
 | .bl b,v=>v = .bl b
 | .int i,v=>v = .int i
 | .str x,v=>v = .str x
 | .lst ts,v=>∃a vs,v = .ref a∧SqL K F a vs∧aI ts vs
 | .tup ts,v=>∃a vs,v = .ref a∧SqT K F a vs∧aI ts vs
 | .dct kts,v=>∃a kvs,v = .ref a∧F a=some (.dK kvs)∧bR kts kvs
 | .exc c t,v=>∃a,v = .ref a∧F a=some (.ext (ExcAt K a c t))
def aI:List T→List V→Prop
 | [],vs=>vs=[]
 | t::ts,vs=>∃v vs',vs=v::vs'∧Rep t v∧aI ts vs'
def bR:List (Key×T)→List (Key×V)→Prop
 | [],kvs=>kvs=[]
 | (k,t)::kts,kvs=>∃v qr,kvs=(k,v)::qr∧Rep t v∧bR kts qr
end
end
theorem aX.kj{K:PySem.W.Frag}{H H':Hp}{a:Addr}{xs:List V}(e:aX H H')(h:SqT K H a xs):SqT K H' a xs:=by
 rcases h with (h|⟨o,h⟩)|h
 ·exact .inl (.inl (e _ _ h))
 ·exact .inl (.inr ⟨o,e _ _ h⟩)
 ·exact .inr h
section
variable{K:PySem.W.Frag}{F F' H H':Hp}
mutual
theorem Rep.mono(s:aX F F'):∀(t:T) (v:V),Rep K F t v→Rep K F' t v
 | .non,v,h=>by rw[Rep] at h ⊢;exact h
 | .bl b,v,h=>by rw[Rep] at h ⊢;exact h
 | .int i,v,h=>by rw[Rep] at h ⊢;exact h
 | .str x,v,h=>by rw[Rep] at h ⊢;exact h
 | .lst ts,v,h=>by
  rw[Rep] at h ⊢
  obtain⟨a,vs,e,q,r⟩:=h
  exact⟨a,vs,e,s.seq q,aI.mono s ts vs r⟩
 | .tup ts,v,h=>by
  rw[Rep] at h ⊢
  obtain⟨a,vs,e,q,r⟩:=h
  exact⟨a,vs,e,aX.kj s q,aI.mono s ts vs r⟩
 | .dct kts,v,h=>by
  rw[Rep] at h ⊢
  obtain⟨a,vs,e,q,r⟩:=h
  exact⟨a,vs,e,s _ _ q,bR.mono s kts vs r⟩
 | .exc c t,v,h=>by
  rw[Rep] at h ⊢
  obtain⟨a,e,q⟩:=h
  exact⟨a,e,s _ _ q⟩
theorem aI.mono(s:aX F F'):∀(ts:List T) (vs:List V),aI K F ts vs→aI K F' ts vs
 | [],vs,h=>by rw[aI] at h ⊢;exact h
 | t::ts,vs,h=>by
  rw[aI] at h ⊢
  obtain⟨v,vs',e,q,r⟩:=h
  exact⟨v,vs',e,Rep.mono s t v q,aI.mono s ts vs' r⟩
theorem bR.mono(s:aX F F'):∀(kts:List (Key×T)) (kvs:List (Key×V)),bR K F kts kvs→bR K F' kts kvs
 | [],vs,h=>by rw[bR] at h ⊢;exact h
 | (k,t)::ts,vs,h=>by
  rw[bR] at h ⊢
  obtain⟨v,vs',e,q,r⟩:=h
  exact⟨v,vs',e,Rep.mono s t v q,bR.mono s ts vs' r⟩
end
theorem Rep.mj{i:Int}{v:V}(h:Rep K F (.int i) v):v = .int i:=by rw[Rep] at h;exact h
theorem Rep.jr{i:Bool}{v:V}(h:Rep K F (.bl i) v):v = .bl i:=by rw[Rep] at h;exact h
theorem Rep.ow{i:Str}{v:V}(h:Rep K F (.str i) v):v = .str i:=by rw[Rep] at h;exact h
theorem Rep.kN{v:V}(h:Rep K F .non v):v = .non:=by rw[Rep] at h;exact h
theorem Rep.jJ(i:Int):Rep K F (.int i) (.int i):=by rw[Rep]
theorem Rep.bl'(i:Bool):Rep K F (.bl i) (.bl i):=by rw[Rep]
theorem Rep.IX(i:Str):Rep K F (.str i) (.str i):=by rw[Rep]
theorem Rep.IY:Rep K F .non .non:=by rw[Rep]
theorem aI.length:∀{ts:List T}{vs:List V},aI K F ts vs→ts.length=vs.length
 | [],vs,h=>by rw[aI] at h;subst h;rfl
 | t::ts,vs,h=>by
  rw[aI] at h
  obtain⟨v,vs',rfl,_,r⟩:=h
  rw[List.length_cons,List.length_cons,aI.length r]
theorem aI.get:∀{ts:List T}{vs:List V}{i:Nat}{t:T},aI K F ts vs→ts[i]?=some t→∃v,vs[i]?=some v∧Rep K F t v
 | [],_,_,_,_,e=>by simp at e
 | t::ts,vs,0,t',h,e=>by
  rw[aI] at h
  obtain⟨v,vs',rfl,q,_⟩:=h
  simp at e;subst e
  exact⟨v,rfl,q⟩
 | t::ts,vs,i+1,t',h,e=>by
  rw[aI] at h
  obtain⟨v,vs',rfl,q,r⟩:=h
  obtain⟨v',h1,h2⟩:=aI.get (i:=i) r (by simpa using e)
  exact⟨v',by simpa using h1,h2⟩
theorem aI.append:∀{ts us:List T}{vs ws:List V},aI K F ts vs→aI K F us ws→aI K F (ts++us) (vs++ws)
 | [],us,vs,ws,h,g=>by rw[aI] at h;subst h;exact g
 | t::ts,us,vs,ws,h,g=>by
  rw[aI] at h
  obtain⟨v,vs',rfl,q,r⟩:=h
  rw[List.cons_append,List.cons_append,aI]
  exact⟨v,vs'++ws,rfl,q,r.append g⟩
theorem aI.lP:aI K F [] []:=by rw[aI]
theorem aI.fM{t:T}{v:V}{ts:List T}{vs:List V}(q:Rep K F t v)(r:aI K F ts vs):aI K F (t::ts) (v::vs):=by rw[aI];exact⟨v,vs,rfl,q,r⟩
theorem aI.one{t:T}{v:V}(q:Rep K F t v):aI K F [t] [v]:=.fM q .lP
theorem aI.take:∀{ts:List T}{vs:List V} (n:Nat),aI K F ts vs→aI K F (ts.take n) (vs.take n)
 | _,_,0,_=>by simpa using aI.lP
 | [],vs,n+1,h=>by rw[aI] at h;subst h;simpa using aI.lP
 | t::ts,vs,n+1,h=>by
  rw[aI] at h
  obtain⟨v,vs',rfl,q,r⟩:=h
  exact .fM q (r.take n)
theorem aI.drop:∀{ts:List T}{vs:List V} (n:Nat),aI K F ts vs→aI K F (ts.drop n) (vs.drop n)
 | _,_,0,h=>by simpa using h
 | [],vs,n+1,h=>by rw[aI] at h;subst h;simpa using aI.lP
 | t::ts,vs,n+1,h=>by
  rw[aI] at h
  obtain⟨v,vs',rfl,q,r⟩:=h
  exact r.drop n
theorem aI.set:∀{ts:List T}{vs:List V} (i:Nat) {t:T}{v:V},aI K F ts vs→Rep K F t v→aI K F (ts.set i t) (vs.set i v)
 | [],vs,i,_,_,h,_=>by rw[aI] at h;subst h;simpa using aI.lP
 | t::ts,vs,0,t',v',h,g=>by
  rw[aI] at h
  obtain⟨v,vs',rfl,q,r⟩:=h
  exact .fM g r
 | t::ts,vs,i+1,t',v',h,g=>by
  rw[aI] at h
  obtain⟨v,vs',rfl,q,r⟩:=h
  exact .fM q (r.set i g)
theorem aI.flat{ts:List T}{vs:List V}(h:aI K F ts vs):∀k:Nat,aI K F (List.replicate k ts).flatten (List.replicate k vs).flatten
 | 0=>by simpa using aI.lP
 | k+1=>by
  rw[List.replicate_succ,List.replicate_succ,List.flatten_cons,List.flatten_cons]
  exact h.append (h.flat k)
theorem aI.B8:∀(ns:List Int),aI K F (ns.map T.int) (ns.map V.int)
 | [] => .lP
 | n::ns => .fM (Rep.jJ n) (aI.B8 ns)
def Now(K:PySem.W.Frag)(F H:Hp)(v:V):T→Prop
 | .lst ts=>∃a vs,v = .ref a∧SqL K H a vs∧aI K F ts vs
 | .tup ts=>∃a vs,v = .ref a∧SqT K F a vs∧aI K F ts vs
 | .dct kts=>∃a kvs,v = .ref a∧H a=some (.dK kvs)∧bR K F kts kvs
 | t=>Rep K F t v
theorem Now.FH(s:aX F H){t:T}{v:V}(h:Rep K F t v):Now K F H v t:=by
 cases t with
 | lst ts=>rw[Rep] at h;obtain⟨a,vs,e,q,r⟩:=h;exact⟨a,vs,e,s.seq q,r⟩
 | tup ts=>rw[Rep] at h;obtain⟨a,vs,e,q,r⟩:=h;exact⟨a,vs,e,q,r⟩
 | dct ts=>rw[Rep] at h;obtain⟨a,vs,e,q,r⟩:=h;exact⟨a,vs,e,s _ _ q,r⟩
 | _=>exact h
theorem Now.int{i:Int}{v:V}(h:Now K F H v (.int i)):v = .int i:=Rep.mj (K:=K) (F:=F) h
theorem Now.bl{i:Bool}{v:V}(h:Now K F H v (.bl i)):v = .bl i:=Rep.jr (K:=K) (F:=F) h
theorem Now.str{i:Str}{v:V}(h:Now K F H v (.str i)):v = .str i:=Rep.ow (K:=K) (F:=F) h
end
def xj(K:PySem.W.Frag)(F:Hp)(α:List Addr)(v:V):Sum T Nat→Prop
 | .inl t=>Rep K F t v
 | .inr k=>∃a,α[k]?=some a∧v = .ref a
def fB(K:PySem.W.Frag)(F:Hp)(α:List Addr)(v:V):SV→Prop
 | .val t=>Rep K F t v
 | .cel k=>∃a,α[k]?=some a∧v = .ref a
 | .box xs=>∃a vs,v = .ref a∧SqT K F a vs∧Paired (xj K F α) vs xs
def kO(K:PySem.W.Frag)(F H:Hp)(a:Addr):T→Prop
 | .lst ts=>∃vs,H a=some (.lst vs)∧aI K F ts vs
 | .dct kts=>∃kvs,H a=some (.dK kvs)∧bR K F kts kvs
 | _=>False
structure dH(K:PySem.W.Frag)(F:Hp)(α:List Addr)(μ:ag)(H:Hp):Prop where
 ext:aX F H
 len:α.length=μ.length
 nd:α.Nodup
 there:∀(k:Nat) (a:Addr),α[k]?=some a→∃o,H a=some o
 cell:∀(k:Nat) (b:Bool) (t:T) (a:Addr),μ[k]?=some (b,t)→α[k]?=some a→(b=true→F a=none∧kO K F H a t)∧(b=false→Rep K F t (.ref a))
structure Sim(K:PySem.W.Frag)(F:Hp)(α:List Addr)(e:Slots)(μ:ag)(σ:St)(H:Hp):Prop where
 st:dH K F α μ H
 sl:∀i x,slot e i=some x→∃v,σ[i]?=some (some v)∧fB K F α v x
 len:e.length=σ.length
section
variable{K:PySem.W.Frag}{F F' F2 H H':Hp}{α α':List Addr}{e:Slots}{μ:ag}{σ:St}{v:V}{x:SV}{t:T}
theorem nr{k:Nat}{a:Addr}(p:α <+: α')(h:α[k]?=some a):α'[k]?=some a:=by
 obtain⟨l,rfl⟩:=p
 have hk:k<α.length:=(List.getElem?_eq_some_iff.mp h).1
 rw[List.getElem?_append_left hk];exact h
theorem xj.mono{y:Sum T Nat}(s:aX F F')(p:α <+: α')(h:xj K F α v y):xj K F' α' v y:=by
 cases y with
 | inl t=>exact Rep.mono s t v h
 | inr k=>obtain⟨a,h1,h2⟩:=h;exact⟨a,nr p h1,h2⟩
theorem fB.mono(s:aX F F')(p:α <+: α')(h:fB K F α v x):fB K F' α' v x:=by
 cases x with
 | val t=>exact Rep.mono s t v h
 | cel k=>obtain⟨a,h1,h2⟩:=h;exact⟨a,nr p h1,h2⟩
 | box xs=>obtain⟨a,vs,e,q,r⟩:=h;exact⟨a,vs,e,aX.kj s q,Paired.imp' (λ_ _ z=>xj.mono s p z) r⟩
theorem bo(S:dH K F α μ H)(h:fB K F α v x)(r:rd μ x=some t):Now K F H v t:=by
 cases x with
 | val u=>cases r;exact Now.FH S.ext h
 | cel k =>
  obtain⟨a,h1,rfl⟩:=h
  cases q:μ[k]? with
  | none=>simp[rd,q] at r
  | some c =>
   obtain⟨b,u⟩:=c
   simp only[rd,q,Option.map_some] at r
   cases r
   obtain⟨c1,c2⟩:=S.cell k b t a q h1
   cases b with
   | false=>exact Now.FH S.ext (c2 rfl)
   | true =>
    obtain⟨_,c⟩:=c1 rfl
    cases t with
    | lst ts=>obtain⟨vs,g1,g2⟩:=c;exact⟨a,vs,rfl,SqL.of g1,g2⟩
    | dct ts=>obtain⟨vs,g1,g2⟩:=c;exact⟨a,vs,rfl,g1,g2⟩
    | _=>exact c.elim
 | box xs=>cases r
def bX(F H F' H':Hp):Prop:=∀b,(F' b=F b∧H' b=H b)∨(H b=none∧F' b=H' b)
theorem bX.refl:bX F H F H:=λ_ => .inl ⟨rfl,rfl⟩
theorem bX.new{p:Addr}{o:HO}(h:H p=none):bX F H (upd F p o) (upd H p o):=λb=>by
 by_cases e:b=p
 ·subst e;exact .inr ⟨h,by rw[aV,aV]⟩
 ·exact .inl ⟨aQ e,aQ e⟩
theorem bX.same(g:bX F H F' H')(s:aX F H):aX F F':=λb o h=>by
 rcases g b with ⟨e1,e2⟩|⟨e1,e2⟩
 ·rw[e1];exact h
 ·rw[s b o h] at e1;cases e1
theorem bX.ext(g:bX F H F' H')(s:aX F H):aX F' H':=λb o h=>by
 rcases g b with ⟨e1,e2⟩|⟨e1,e2⟩
 ·rw[e2];rw[e1] at h;exact s b o h
 ·rw[← e2];exact h
theorem kO.grow(g:bX F H F' H')(s:aX F H){a:Addr}(h:kO K F H a t):kO K F' H' a t:=by
 have keep:∀{o:HO},H a=some o→H' a=some o:=λ{o} h=>by
  rcases g a with ⟨e1,e2⟩|⟨e1,e2⟩
  ·rw[e2];exact h
  ·rw[h] at e1;cases e1
 cases t with
 | lst ts=>obtain⟨vs,h1,h2⟩:=h;exact⟨vs,keep h1,aI.mono (g.same s) _ _ h2⟩
 | dct ts=>obtain⟨vs,h1,h2⟩:=h;exact⟨vs,keep h1,bR.mono (g.same s) _ _ h2⟩
 | _=>exact h.elim
theorem kO.there{a:Addr}(h:kO K F H a t):∃o,H a=some o:=by
 cases t with
 | lst ts=>obtain⟨vs,h1,h2⟩:=h;exact⟨_,h1⟩
 | dct ts=>obtain⟨vs,h1,h2⟩:=h;exact⟨_,h1⟩
 | _=>exact h.elim
theorem dH.grow(S:dH K F α μ H)(g:bX F H F' H'):dH K F' α μ H' where
 ext:=g.ext S.ext
 len:=S.len
 nd:=S.nd
 there:=λk a h=>by
  obtain⟨o,ho⟩:=S.there k a h
  rcases g a with ⟨e1,e2⟩|⟨e1,e2⟩
  ·exact⟨o,by rw[e2];exact ho⟩
  ·rw[ho] at e1;cases e1
 cell:=λk b t a h1 h2=>by
  obtain⟨c1,c2⟩:=S.cell k b t a h1 h2
  refine⟨λhb=>?_,λhb=>Rep.mono (g.same S.ext) _ _ (c2 hb)⟩
  obtain⟨d1,d2⟩:=c1 hb
  refine⟨?_,d2.grow g S.ext⟩
  obtain⟨o,ho⟩:=d2.there
  rcases g a with ⟨e1,e2⟩|⟨e1,e2⟩
  ·rw[e1];exact d1
  ·rw[ho] at e1;cases e1
theorem Sim.grow(S:Sim K F α e μ σ H)(g:bX F H F' H'):Sim K F' α e μ σ H' where
 st:=S.st.grow g
 sl:=λi x h=>by
  obtain⟨v,h1,h2⟩:=S.sl i x h
  exact⟨v,h1,h2.mono (g.same S.st.ext) (List.prefix_refl _)⟩
 len:=S.len
theorem Sim.of(S:Sim K F α e μ σ H){μ':ag}(s:aX F F')(p:α <+: α')(S':dH K F' α' μ' H'):Sim K F' α' e μ' σ H' :=
 ⟨S',λi x h=>by
  obtain⟨v,h1,h2⟩:=S.sl i x h
  exact⟨v,h1,h2.mono s p⟩,S.len⟩
theorem tO{k j:Nat}{a:Addr}(n:α.Nodup)(h1:α[k]?=some a)(h2:α[j]?=some a):k=j:=by
 obtain⟨a1,b1⟩:=List.getElem?_eq_some_iff.mp h1
 obtain⟨a2,b2⟩:=List.getElem?_eq_some_iff.mp h2
 exact (List.getElem_inj n).mp (b1.trans b2.symm)
theorem B9{k:Nat}(S:dH K F α μ H)(h:∃a,α[k]?=some a∧v = .ref a){μ':ag}(r:frz (.cel k) μ = .ok t μ'):∃F',aX F F'∧(∀b,b∉α→F' b=F b)∧dH K F' α μ' H∧Rep K F' t v:=by
  obtain⟨a,h1,rfl⟩:=h
  unfold frz at r
  cases q:μ[k]? with
  | none=>simp only[q] at r;cases r
  | some c =>
   obtain⟨b,u⟩:=c
   simp only[q] at r
   cases r
   have hk:k<μ.length:=(List.getElem?_eq_some_iff.mp q).1
   obtain⟨c1,c2⟩:=S.cell k b t a q h1
   have main:∃F',aX F F'∧aX F' H∧Rep K F' t (.ref a)∧∀c,c≠a→F' c=F c:=by
    cases b with
    | false=>exact⟨F,aX.refl F,S.ext,c2 rfl,λ_ _=>rfl⟩
    | true =>
     obtain⟨d1,d2⟩:=c1 rfl
     obtain⟨o,ho⟩:=d2.there
     have s1:aX F (upd F a o):=λc z hz=>by
      rw[aQ (λq=>by subst q;rw[d1] at hz;cases hz)];exact hz
     refine⟨upd F a o,s1,λc z hz=>?_,?_,λc hc=>aQ hc⟩
     ·by_cases e:c=a
      ·subst e;rw[aV] at hz;cases hz;exact ho
      ·rw[aQ e] at hz;exact S.ext c z hz
     ·cases t with
      | lst ts=>obtain⟨vs,g1,g2⟩:=d2;rw[g1] at ho;cases ho;rw[Rep];exact⟨a,vs,rfl,SqL.of aV,aI.mono s1 _ _ g2⟩
      | dct ts=>obtain⟨vs,g1,g2⟩:=d2;rw[g1] at ho;cases ho;rw[Rep];exact⟨a,vs,rfl,aV,bR.mono s1 _ _ g2⟩
      | _=>exact d2.elim
   obtain⟨F',s1,s2,rp,ne⟩:=main
   refine⟨F',s1,λc hc=>ne c λq=>hc (by rw[q];exact List.mem_of_getElem? h1),⟨s2,by rw[List.length_set];exact S.len,S.nd,S.there,λj b' u' a' g1 g2=>?_⟩,rp⟩
   by_cases e:j=k
   ·subst e
    rw[List.getElem?_set_self hk] at g1
    cases g1
    rw[h1] at g2;cases g2
    exact⟨λz=>(by cases z),λ_=>rp⟩
   ·rw[List.getElem?_set_ne (Ne.symm e)] at g1
    obtain⟨z1,z2⟩:=S.cell j b' u' a' g1 g2
    have na:a'≠a:=λq=>by subst q;exact e (tO S.nd g2 h1)
    refine⟨λhb=>?_,λhb=>Rep.mono s1 _ _ (z2 hb)⟩
    obtain⟨y1,y2⟩:=z1 hb
    refine⟨by rw[ne _ na];exact y1,?_⟩
    cases u' with
    | lst ts=>obtain⟨vs,w1,w2⟩:=y2;exact⟨vs,w1,aI.mono s1 _ _ w2⟩
    | dct ts=>obtain⟨vs,w1,w2⟩:=y2;exact⟨vs,w1,bR.mono s1 _ _ w2⟩
    | _=>exact y2.elim
theorem IZ(k:Nat)(μ:ag):yP (.inr k) μ=frz (.cel k) μ:=by unfold yP frz;rfl
theorem yZ:∀{xs:List (Sum T Nat)}{vs:List V}{μ μ':ag}{F:Hp}{ts:List T},dH K F α μ H→Paired (xj K F α) vs xs→lW xs μ = .ok ts μ'→∃F',aX F F'∧(∀b,b∉α→F' b=F b)∧dH K F' α μ' H∧aI K F' ts vs
 | [],vs,μ,μ',F,ts,S,p,r=>by
  cases p
  cases r
  exact⟨F,aX.refl F,λ_ _=>rfl,S,aI.lP⟩
 | x::xs,vs,μ,μ',F,ts,S,p,r=>by
  cases p with
  | @cons v₁ _ vs₁ _ hv p =>
   unfold lW at r
   obtain⟨t,μ1,r1,r⟩:=R.a_ r
   obtain⟨ts',μ2,r2,r⟩:=R.a_ r
   cases r
   have one:∃F',aX F F'∧(∀b,b∉α→F' b=F b)∧dH K F' α μ1 H∧Rep K F' t v₁:=by
    cases x with
    | inl u=>cases r1;exact⟨F,aX.refl F,λ_ _=>rfl,S,hv⟩
    | inr k=>rw[IZ] at r1;exact B9 S hv r1
   obtain⟨F1,s1,n1,S1,q1⟩:=one
   obtain⟨F2,s2,n2,S2,q2⟩:=yZ S1 (Paired.imp' (λ_ _ z=>xj.mono s1 (List.prefix_refl _) z) p) r2
   exact⟨F2,s1.trans s2,λb hb=>(n2 b hb).trans (n1 b hb),S2,.fM (Rep.mono s2 _ _ q1) q2⟩
theorem qt(S:dH K F α μ H)(h:fB K F α v x){μ':ag}(r:frz x μ = .ok t μ'):∃F',aX F F'∧(∀b,b∉α→F' b=F b)∧dH K F' α μ' H∧Rep K F' t v:=by
 cases x with
 | val u=>cases r;exact⟨F,aX.refl F,λ_ _=>rfl,S,h⟩
 | cel k=>exact B9 S h r
 | box xs =>
  obtain⟨a,vs,rfl,q,p⟩:=h
  unfold frz at r
  obtain⟨ts,μ1,r1,r⟩:=R.a_ r
  cases r
  obtain⟨F1,s1,n1,S1,q1⟩:=yZ S p r1
  refine⟨F1,s1,n1,S1,?_⟩
  rw[Rep]
  exact⟨a,vs,rfl,aX.kj s1 q,q1⟩
theorem sE:∀{xs:List SV}{vs:List V}{μ μ':ag}{F:Hp}{ts:List T},dH K F α μ H→Paired (λv x=>fB K F α v x) vs xs→eJ xs μ = .ok ts μ'→∃F',aX F F'∧(∀b,b∉α→F' b=F b)∧dH K F' α μ' H∧aI K F' ts vs
 | [],vs,μ,μ',F,ts,S,p,r=>by
  cases p
  cases r
  exact⟨F,aX.refl F,λ_ _=>rfl,S,aI.lP⟩
 | x::xs,vs,μ,μ',F,ts,S,p,r=>by
  cases p with
  | cons hv p =>
   rw[nc] at r
   obtain⟨t,μ1,r1,r⟩:=R.a_ r
   obtain⟨ts',μ2,r2,r⟩:=R.a_ r
   cases r
   obtain⟨F1,s1,n1,S1,q1⟩:=qt S hv r1
   obtain⟨F2,s2,n2,S2,q2⟩:=sE S1 (Paired.imp' (λ_ _ z=>fB.mono s1 (List.prefix_refl _) z) p) r2
   exact⟨F2,s1.trans s2,λb hb=>(n2 b hb).trans (n1 b hb),S2,.fM (Rep.mono s2 _ _ q1) q2⟩
theorem AN(S:dH K F α μ H){k:Nat}{a:Addr}{t₀:T}{o:HO}(hk:μ[k]?=some (true,t₀))(ha:α[k]?=some a)(c:kO K F (upd H a o) a t):dH K F α (μ.set k (true,t)) (upd H a o):=by
 have hlt:k<μ.length:=(List.getElem?_eq_some_iff.mp hk).1
 have hF:=((S.cell k true t₀ a hk ha).1 rfl).1
 refine⟨λb z hz=>?_,by rw[List.length_set];exact S.len,S.nd,λj b h=>?_,λj b u a' h1 h2=>?_⟩
 ·rw[aQ (λq=>by subst q;rw[hF] at hz;cases hz)];exact S.ext b z hz
 ·by_cases e:b=a
  ·subst e;exact⟨o,aV⟩
  ·rw[aQ e];exact S.there j b h
 ·by_cases e:j=k
  ·subst e
   rw[List.getElem?_set_self hlt] at h1
   cases h1
   rw[ha] at h2;cases h2
   exact⟨λ_=>⟨hF,c⟩,λz=>(by cases z)⟩
  ·rw[List.getElem?_set_ne (Ne.symm e)] at h1
   have na:a'≠a:=λq=>by subst q;exact e (tO S.nd h2 ha)
   obtain⟨c1,c2⟩:=S.cell j b u a' h1 h2
   refine⟨λhb=>⟨(c1 hb).1,?_⟩,c2⟩
   have d:=(c1 hb).2
   cases u with
   | lst ts=>obtain⟨vs,w1,w2⟩:=d;exact⟨vs,by rw[aQ na];exact w1,w2⟩
   | dct ts=>obtain⟨vs,w1,w2⟩:=d;exact⟨vs,by rw[aQ na];exact w1,w2⟩
   | _=>exact d.elim
theorem dH.take{β:List Addr}(S:dH K F β μ H)(n:Nat):dH K F (β.take n) (μ.take n) H:=by
 have cut:∀{γ:Type}{l:List γ}{k:Nat}{z:γ},(l.take n)[k]?=some z→l[k]?=some z:=λ{γ l k z} h=>by
  rw[List.getElem?_take] at h
  split at h
  ·exact h
  ·cases h
 exact⟨S.ext,by rw[List.length_take,List.length_take,S.len],S.nd.sublist (List.take_sublist _ _),λk a h=>S.there k a (cut h),λk b t a h1 h2=>S.cell k b t a (cut h1) (cut h2)⟩
theorem Ox{μ₀:ag}{β:List Addr}{r:SV}{μ':ag}(hα:α.length=μ₀.length)(p:α <+: β)(S:dH K F β μ H)(h:fB K F β v x)(hg:gc μ₀.length x μ = .ok r μ') :
  ∃γ,α <+: γ∧(∀b,b∈γ→b∈β)∧dH K F γ μ' H∧fB K F γ v r:=by
 have hn:β.take μ₀.length=α:=by
  rw[← hα]
  obtain⟨l,rfl⟩:=p
  simp
 have hp:α <+: β.take μ₀.length:=by rw[hn];exact List.prefix_refl _
 unfold gc at hg
 cases x with
 | val t =>
  simp only at hg
  cases hg
  exact⟨β.take μ₀.length,hp,λb hb=>List.mem_of_mem_take hb,S.take _,h⟩
 | cel k =>
  obtain⟨a,ha,rfl⟩:=h
  simp only at hg
  by_cases hk:k<μ₀.length
  ·rw[if_pos hk] at hg
   cases hg
   exact⟨β.take μ₀.length,hp,λb hb=>List.mem_of_mem_take hb,S.take _,a,by rw[List.getElem?_take_of_lt hk];exact ha,rfl⟩
  ·rw[if_neg hk] at hg
   cases hc:μ[k]? with
   | none=>rw[hc] at hg;cases hg
   | some c =>
    rw[hc] at hg
    cases hg
    have T:=S.take μ₀.length
    have hl:(β.take μ₀.length).length=μ₀.length:=by rw[hn];exact hα
    have hl2:(μ.take μ₀.length).length=μ₀.length:=by rw[← T.len];exact hl
    have ox:∀{γ:Type}{l:List γ}{z:γ}{j:Nat}{y:γ},l.length=μ₀.length→(l++[z])[j]?=some y→(j<μ₀.length∧l[j]?=some y)∨(j=μ₀.length∧y=z):=λ{γ l z j y} e h=>by
     by_cases hj:j<l.length
     ·rw[List.getElem?_append_left hj] at h;exact .inl ⟨by lia,h⟩
     ·rw[List.getElem?_append_right (by lia)] at h
      by_cases h0:j-l.length=0
      ·rw[h0] at h;simp at h;exact .inr ⟨by lia,h.symm⟩
      ·rw[List.getElem?_eq_none (by simp;lia)] at h;cases h
    have cut:∀{γ:Type}{l:List γ}{j:Nat}{z:γ},(l.take μ₀.length)[j]?=some z→l[j]?=some z:=λ{γ l j z} h=>by
     rw[List.getElem?_take] at h
     split at h
     ·exact h
     ·cases h
    refine⟨β.take μ₀.length++[a],hp.trans (List.prefix_append _ _),λb hb=>(List.mem_append.mp hb).elim (λz=>List.mem_of_mem_take z) λz=>by simp at z;subst z;exact List.mem_of_getElem? ha,⟨S.ext,by rw[List.length_append,List.length_append,hl,hl2];rfl,?_,λj b g=>?_,λj b u a' g1 g2=>?_⟩,a,?_,rfl⟩
    ·rw[List.nodup_append]
     refine⟨T.nd,by simp,λb hb b' hb'=>?_⟩
     simp at hb'
     subst hb'
     intro q
     subst q
     obtain⟨j,hj⟩:=List.mem_iff_getElem?.mp hb
     have hj':j<μ₀.length:=by rw[← hl];exact (List.getElem?_eq_some_iff.mp hj).1
     have:=tO S.nd (cut hj) ha
     lia
    ·rcases ox hl g with ⟨_,g'⟩|⟨_,rfl⟩
     ·exact T.there j b g'
     ·exact S.there k _ ha
    ·rcases ox hl g2 with ⟨hj,g'⟩|⟨hj,rfl⟩
     ·rcases ox hl2 g1 with ⟨_,g1'⟩|⟨hj',_⟩
      ·exact T.cell j b u a' g1' g'
      ·lia
     ·rcases ox hl2 g1 with ⟨hj',_⟩|⟨_,e⟩
      ·lia
      ·exact S.cell k b u _ (by rw[hc,e]) ha
    ·rw[List.getElem?_append_right (by lia),hl]
     simp
 | box xs=>cases hg
theorem FI{μ₀:ag}{β:List Addr}{r:SV}{μ':ag}(hα:α.length=μ₀.length)(p:α <+: β)(S:dH K F β μ H)(h:fB K F β v x)(hg:ice μ₀.length x μ = .ok r μ') :
  ∃F',aX F F'∧(∀b,b∉β→F' b=F b)∧dH K F' α μ' H∧fB K F' α v r:=by
 unfold ice at hg
 obtain⟨t,μ1,h1,hg⟩:=R.a_ hg
 cases hg
 obtain⟨F1,s1,n1,S1,q1⟩:=qt S h h1
 have hn:β.take μ₀.length=α:=by
  rw[← hα]
  obtain⟨l,rfl⟩:=p
  simp
 have S2:=S1.take μ₀.length
 rw[hn] at S2
 exact⟨F1,s1,n1,S2,q1⟩
end
structure Ex(F:Hp)(α:List Addr)(H F':Hp)(α':List Addr)(H':Hp):Prop where
 same:aX F F'
 pre:α <+: α'
 fr:∀b o,H b=some o→F b=none→b∉α→H' b=some o∧F' b=none∧b∉α'
section
variable{K:PySem.W.Frag}{F F' F1 F2 H H' H1 H2:Hp}{α α' α1 α2:List Addr}{μ μ':ag}
theorem Ex.refl:Ex F α H F α H:=⟨aX.refl F,List.prefix_refl _,λ_ _ h1 h2 h3=>⟨h1,h2,h3⟩⟩
theorem Ex.trans(x:Ex F α H F1 α1 H1)(y:Ex F1 α1 H1 F2 α2 H2):Ex F α H F2 α2 H2 :=
 ⟨x.same.trans y.same,x.pre.trans y.pre,λb o h1 h2 h3=>let ⟨g1,g2,g3⟩:=x.fr b o h1 h2 h3;y.fr b o g1 g2 g3⟩
theorem Ex.tP(s:aX F F')(n:∀b,b∉α→F' b=F b):Ex F α H F' α H:=⟨s,List.prefix_refl _,λb o h1 h2 h3=>⟨h1,by rw[n b h3];exact h2,h3⟩⟩
theorem bX.ex(g:bX F H F' H')(s:aX F H):Ex F α H F' α H':=⟨g.same s,List.prefix_refl _,λb o h1 h2 h3=>by
 rcases g b with ⟨e1,e2⟩|⟨e1,e2⟩
 ·exact⟨by rw[e2];exact h1,by rw[e1];exact h2,h3⟩
 ·rw[h1] at e1;cases e1⟩
theorem Ex.was{p:Addr}(x:Ex F α H F1 α1 H1)(S:dH K F1 α1 μ H1)(h:H1 p=none):H p=none:=by
 cases q:H p with
 | none=>rfl
 | some o =>
  exfalso
  cases f:F p with
  | some z=>rw[S.ext p z (x.same p z f)] at h;cases h
  | none =>
   by_cases hm:p∈α
   ·obtain⟨k,hk⟩:=List.mem_iff_getElem?.mp hm
    obtain⟨z,hz⟩:=S.there k p (nr x.pre hk)
    rw[hz] at h;cases h
   ·rw[(x.fr p o q f hm).1] at h;cases h
theorem Ex.lay{p:Addr}{o:HO}(h:H p=none):Ex F α H F α (upd H p o):=⟨aX.refl F,List.prefix_refl _,λb z h1 h2 h3=>⟨by rw[aQ (λq=>by subst q;rw[h] at h1;cases h1)];exact h1,h2,h3⟩⟩
theorem Ex.put{k:Nat}{a:Addr}{o:HO}(ha:α[k]?=some a):Ex F α H F α (upd H a o):=⟨aX.refl F,List.prefix_refl _,λb z h1 h2 h3=>⟨by rw[aQ (λq=>h3 (by rw[q];exact List.mem_of_getElem? ha))];exact h1,h2,h3⟩⟩
theorem Ex.more{p:Addr}(x:Ex F α H F' α' H')(h:H p=none):Ex F α H F' (α'++[p]) H':=⟨x.same,x.pre.trans (List.prefix_append _ _),λb o h1 h2 h3=>by
 obtain⟨g1,g2,g3⟩:=x.fr b o h1 h2 h3
 refine⟨g1,g2,λhm=>?_⟩
 rcases List.mem_append.mp hm with z|z
 ·exact g3 z
 ·simp at z;subst z;rw[h] at h1;cases h1⟩
theorem Ex.ice{p:Addr}{o:HO}(x:Ex F α H F' α' H')(h:H p=none)(h':F' p=none):Ex F α H (upd F' p o) α' H':=⟨x.same.trans λb z hz=>by
  rw[aQ (λq=>by subst q;rw[h'] at hz;cases hz)];exact hz,x.pre,λb z h1 h2 h3=>by
 obtain⟨g1,g2,g3⟩:=x.fr b z h1 h2 h3
 exact⟨g1,by rw[aQ (λq=>by subst q;rw[h] at h1;cases h1)];exact g2,g3⟩⟩
end
theorem bR.length{K:PySem.W.Frag}{F:Hp}:∀{ts:List (Key×T)}{vs:List (Key×V)},bR K F ts vs→ts.length=vs.length
 | [],vs,h=>by rw[bR] at h;subst h;rfl
 | (k,t)::ts,vs,h=>by
  rw[bR] at h
  obtain⟨v,vs',rfl,_,r⟩:=h
  rw[List.length_cons,List.length_cons,bR.length r]
def R.wp{α:Type}(r:R α)(Q:α→ag→Prop)(E:T→ag→Prop):Prop:=match r with
 | .ok a μ=>Q a μ
 | .err c μ=>E c μ
 | .bad=>False
theorem R.wp_bind{α β:Type}{r:R α}{f:α→ag→R β}{Q:β→ag→Prop}{E:T→ag→Prop}(h:(r.bind f).wp Q E):r.wp (λa μ=>(f a μ).wp Q E) E:=by
 cases r<;>exact h
theorem R.wp.mono{α:Type}{r:R α}{Q Q':α→ag→Prop}{E E':T→ag→Prop}(h:r.wp Q E)(hQ:∀a μ,Q a μ→Q' a μ)(hE:∀c μ,E c μ→E' c μ):r.wp Q' E':=by
 cases r with
 | ok a μ=>exact hQ a μ h
 | err c μ=>exact hE c μ h
 | bad=>exact h
theorem R.bL{α:Type}{o:Option α}{μ:ag}{Q:α→ag→Prop}{E:T→ag→Prop}(h:(R.lift o μ).wp Q E):∃a,o=some a∧Q a μ:=by
 cases o with
 | none=>exact h.elim
 | some a=>exact⟨a,rfl,h⟩
def Dv(K:PySem.W.Frag)(F:Hp)(α:List Addr)(H:Hp)(e:Slots)(σ:St)(Q:VK)(x:SV)(μ:ag):Prop :=
 ∀v H' F' α',Ex F α H F' α' H'→Sim K F' α' e μ σ H'→fB K F' α' v x→Q v H'
def Oy(X:Cx)(pins:List (Addr×Obj))(σ:St)(H:Hp)(c:T)(ev:Value)(s':Shared):Prop :=
 ∃n C,c = .exc n none∧X.mg n=some (.ref C)∧((X.calm=true∧∃s h' e vs,Inv X pins σ H s∧Heap.MadeExcOf s.heap h' e (.ref C) vs∧ev = .ref e∧s'={ s with heap:=h' }) ∨
  (∃H0 s,Inv X pins σ H0 s∧CX1 X.prog X.w X.stack H0 s (λcv _ H'=>cv = .ref C∧H'=H) ev s')∨(X.calm=true∧∃e t B,ev = .ref e∧Hel X pins σ H e t C B s'))
def fe(X:Cx)(F:Hp)(α:List Addr)(H:Hp)(e:Slots)(c:T)(μ:ag):Prop :=
 ∀ev s',(∃pins σ' H' F' α',Ex F α H F' α' H'∧Sim X.K F' α' e μ σ' H'∧Oy X pins σ' H' c ev s')→X.xe ev s'
theorem fe.mono{X:Cx}{F F1 H H1:Hp}{α α1:List Addr}{e:Slots}{c:T}{μ:ag}(x:Ex F α H F1 α1 H1)(h:fe X F α H e c μ):fe X F1 α1 H1 e c μ :=
 λev s' ⟨pins,σ',H',F',α',y,S,f⟩=>h ev s' ⟨pins,σ',H',F',α',x.trans y,S,f⟩
def tD(X:Cx)(d:D):TE:=λσ H Q=>∃F α e μ,Sim X.K F α e μ σ H∧(d e μ).wp (Dv X.K F α H e σ Q) (fe X F α H e)
def tDT(X:Cx)(d:D):TT:=λσ H Q=>∃F α e μ,Sim X.K F α e μ σ H∧(d e μ).wp (λx μ'=>∃b,x = .val (.bl b) ∧
 ∀H' F' α',Ex F α H F' α' H'→Sim X.K F' α' e μ' σ H'→Q b H') (fe X F α H e)
def tDA(X:Cx)(ds:List D):TA:=λσ H Q=>∃F α e μ,Sim X.K F α e μ σ H∧(eT ds e μ).wp (λxs μ' =>
 ∀vs H' F' α',Ex F α H F' α' H'→Sim X.K F' α' e μ' σ H'→Paired (λv x=>fB X.K F' α' v x) vs xs→Q vs H') (fe X F α H e)
def CE(X:Cx)(e:Expr)(d:D):Prop:=PE X e (tD X d)
def CT(X:Cx)(e:Expr)(d:D):Prop:=PT X e (tDT X d)
def CA(X:Cx)(es:List Expr)(ds:List D):Prop:=PA X es (tDA X ds)
theorem PE.imp{X:Cx}{e:Expr}{t t':TE}(h:PE X e t)(i:∀σ H Q,t' σ H Q→t σ H Q):PE X e t':=λpins s σ H Q I q=>h pins s σ H Q I (i σ H Q q)
theorem PT.imp{X:Cx}{e:Expr}{t t':TT}(h:PT X e t)(i:∀σ H Q,t' σ H Q→t σ H Q):PT X e t':=λpins s σ H Q I q=>h pins s σ H Q I (i σ H Q q)
theorem PA.imp{X:Cx}{e:List Expr}{t t':TA}(h:PA X e t)(i:∀σ H Q,t' σ H Q→t σ H Q):PA X e t':=λpos pins s σ H Q I q=>h pos pins s σ H Q I (i σ H Q q)
theorem PS.imp{X:Cx}{e:Stmt}{t t':TS}(h:PS X e t)(i:∀D σ H,t' D σ H→t D σ H):PS X e t':=λpins s σ H D I q=>h pins s σ H D I (i D σ H q)
theorem PSs.imp{X:Cx}{e:List Stmt}{t t':TS}(h:PSs X e t)(i:∀D σ H,t' D σ H→t D σ H):PSs X e t':=λpins s σ H D I q=>h pins s σ H D I (i D σ H q)
def fN(K:PySem.W.Frag)(r:R2)(f:T→T→Option T):Prop:=∀F H v u t t' w Q,aX F H→Now K F H v t→Now K F H u t'→f t t'=some w →
 (∀v' H' F',bX F H F' H'→Rep K F' w v'→Q v' H')→r v u H Q
def Ko(K:PySem.W.Frag)(r:V→Hp→VK→Prop)(f:T→Option T):Prop:=∀F H v t w Q,aX F H→Now K F H v t→f t=some w →
 (∀v' H' F',bX F H F' H'→Rep K F' w v'→Q v' H')→r v H Q
def tQ(K:PySem.W.Frag)(r:List V→Hp→VK→Prop)(f:T→Option T):Prop:=∀F H v t w Q,aX F H→Now K F H v t→f t=some w →
 (∀v' H' F',bX F H F' H'→Rep K F' w v'→Q v' H')→r [v] H Q
def y9(K:PySem.W.Frag)(r:List V→Hp→VK→Prop)(f:T→Option T):Prop:=∀F H v t w Q,aX F H→Now K F H v t→f t=some w →
 (∀p o,H p=none→kO K F (upd H p o) p w→Q (.ref p) (upd H p o))→r [v] H Q
section
variable{X:Cx}{a b c:Expr}{da db dc:D}{pos:Pos}
theorem aa(i:Nat){x:Str}(hN:X.N[i]?=some x:=by rfl)(hv:Vis X.env.scope x:=by first|exact Or.inl rfl|exact Or.inr (Or.inl rfl)|exact Or.inr (Or.inr rfl))(hd:(x==("__debug__":Str))=false:=by decide)
  (hcd:(x==("__classdict__":Str))=false:=by decide):CE X (.Name x pos) (ae i) :=
 PE.imp (Al hN hv hd hcd) λσ H Q ax=>by
  obtain⟨F,α,e,μ,S,h⟩:=ax
  obtain⟨x,h1,h⟩:=R.bL h
  obtain⟨v,hv,ok⟩:=S.sl i x h1
  exact⟨v,hv,h v H F α Ex.refl S ok⟩
theorem pL{v:V}{t:T}(h:PE X a (tC v))(r:∀F,Rep X.K F t v):CE X a (dC t) :=
 PE.imp h λσ H Q ⟨F,α,e,μ,S,h⟩=>h v H F α Ex.refl S (r F)
theorem aq{i:Int}{j pos}:CE X (.Constant (.int i) j pos) (dC (.int i)):=pL K1 λ_=>Rep.jJ i
theorem kl{i:Bool}{j pos}:CE X (.Constant (.bool i) j pos) (dC (.bl i)):=pL NQ λ_=>Rep.bl' i
theorem qu{i:Str}{j pos}:CE X (.Constant (.str i) j pos) (dC (.str i)):=pL K3 λ_=>Rep.IX i
theorem FJ{j pos}:CE X (.Constant .none j pos) (dC .non):=pL K2 λ_=>Rep.IY
theorem two{r:R2}{f:T→T→Option T}(hs:fN X.K r f)(σ:St)(H:Hp)(Q:VK)(h:tD X (ai f da db) σ H Q):tOp r (tD X da) (tD X db) σ H Q:=by
 obtain⟨F,α,e,μ,S,h⟩:=h
 refine⟨F,α,e,μ,S,?_⟩
 refine (R.wp_bind h).mono (λx μ1 h v H1 F1 α1 x1 S1 o1=>⟨F1,α1,e,μ1,S1,?_⟩) λ_ _ h=>h
 refine (R.wp_bind h).mono (λy μ2 h v2 H2 F2 α2 x2 S2 o2=>?_) λ_ _ h=>h.mono x1
 obtain⟨w,h9,post⟩:=R.bL h
 obtain⟨t,u,w',ht,hu,h,rfl⟩:=tf h9
 exact hs F2 H2 v v2 t u w' Q S2.st.ext (bo S2.st (o1.mono x2.same x2.pre) ht) (bo S2.st o2 hu) h λv' H' F' g rp =>
  post v' H' F' α2 (x1.trans (x2.trans (g.ex S2.st.ext))) (S2.grow g) rp
theorem ml{op:Operator}{r:R2}{f:T→T→Option T}(ho:OpR X (binaryOp op) r)(hs:fN X.K r f)(ha:CE X a da)(hb:CE X b db):CE X (.BinOp a op b pos) (ai f da db) :=
 PE.imp (Kh ho ha hb) (two hs)
theorem L6{op:CmpOp}{r:R2}{f:T→T→Option T}(ho:OpR X (compareOp op) r)(hs:fN X.K r f)(hm:behindInMarks op b=false)(ha:CE X a da)(hb:CE X b db):CE X (.Compare a [op] [b] pos) (ai f da db) :=
 PE.imp (Ia ho ha hb hm) (two hs)
theorem one{r:V→Hp→VK→Prop}{f:T→Option T}(hs:Ko X.K r f)(σ:St)(H:Hp)(Q:VK)(h:tD X (dUn f da) σ H Q):tUn r (tD X da) σ H Q:=by
 obtain⟨F,α,e,μ,S,h⟩:=h
 refine⟨F,α,e,μ,S,?_⟩
 refine (R.wp_bind h).mono (λx μ1 h v H1 F1 α1 x1 S1 o1=>?_) λ_ _ h=>h
 obtain⟨w,h9,post⟩:=R.bL h
 obtain⟨t,w',ht,h,rfl⟩:=om h9
 exact hs F1 H1 v t w' Q S1.st.ext (bo S1.st o1 ht) h λv' H' F' g rp =>
  post v' H' F' α1 (x1.trans (g.ex S1.st.ext)) (S1.grow g) rp
theorem Oz{op:UnaryOp}{r:V→Hp→VK→Prop}{f:T→Option T}(ho:UnR X (unaryOp op) r)(hs:Ko X.K r f)(ha:CE X a da):CE X (.UnaryOp op a pos) (dUn f da):=PE.imp (N0 ho ha) (one hs)
theorem az:CA X [] []:=PA.imp qj λσ H Q ⟨F,α,e,μ,S,h⟩=>h [] H F α Ex.refl S .nil
theorem af{es:List Expr}{ds:List D}(ha:CE X a da)(hr:CA X es ds)(hs:starEach (a::es) X.env=(false,eval a X.env)::starEach es X.env:=by rfl):CA X (a::es) (da::ds) :=
 PA.imp (ia ha hr hs) λσ H Q ax=>by
  obtain⟨F,α,e,μ,S,h⟩:=ax
  rw[bH] at h
  refine⟨F,α,e,μ,S,(R.wp_bind h).mono (λx μ1 h v H1 F1 α1 x1 S1 o1=>⟨F1,α1,e,μ1,S1,?_⟩) λ_ _ h=>h⟩
  refine (R.wp_bind h).mono (λxs μ2 h vs H2 F2 α2 x2 S2 o2=>?_) λ_ _ h=>h.mono x1
  exact h (v::vs) H2 F2 α2 (x1.trans x2) S2 (.cons (o1.mono x2.same x2.pre) o2)
theorem v_:∀{ds:List D}{e:Slots}{μ μ':ag}{xs:List SV},eT ds e μ = .ok xs μ'→xs.length=ds.length
 | [],e,μ,μ',xs,h=>by cases h;rfl
 | d::ds,e,μ,μ',xs,h=>by
  rw[bH] at h
  obtain⟨x,μ1,hx,h⟩:=R.a_ h
  obtain⟨ys,μ2,hy,h⟩:=R.a_ h
  cases h
  rw[List.length_cons,List.length_cons,v_ hy]
theorem fC{ds:List D}{e:Slots}{μ:ag}{Q:List SV→ag→Prop}{E:T→ag→Prop}(h:(eT ds e μ).wp Q E):(eT ds e μ).wp (λxs μ'=>xs.length=ds.length∧Q xs μ') E:=by
 cases q:eT ds e μ with
 | ok xs μ'=>rw[q] at h;exact⟨v_ q,h⟩
 | err c μ'=>rw[q] at h;exact h
 | bad=>rw[q] at h;exact h
theorem ny{n:Nat}{xs:List SV}{vs:List V}{P:V→SV→Prop}(h:xs.length=n)(o:Paired P vs xs)(hl:n≤1000):vs.length≤sizeLine:=by
 have e1:=o.length
 exact Nat.le_of_lt (v7 (by lia))
theorem qv{es:List Expr}{ds:List D}{x1}(h:CA X es ds)(hl:ds.length≤1000:=by decide):CE X (.Tuple es x1 pos) (lX ds) :=
 PE.imp (As h) λσ H Q ax=>by
  obtain⟨F,α,e,μ,S,h⟩:=ax
  refine⟨F,α,e,μ,S,(fC (R.wp_bind h)).mono (λxs μ1 eA vs H1 F1 α1 x1 S1 o1=>?_) λ_ _ h=>h⟩
  obtain⟨hn,h⟩:=eA
  have h:=R.wp_bind h
  cases hz:eJ xs μ1 with
  | err c μ2 =>
   exact absurd hz (sA xs μ1 c μ2)
  | bad=>rw[hz] at h;exact h.elim
  | ok ts μ2 =>
   rw[hz] at h
   obtain⟨F2,s2,n2,S2,r2⟩:=sE S1.st o1 hz
   refine⟨ny hn o1 hl,λp hp=>?_⟩
   have g:bX F2 H1 (upd F2 p (.tup vs)) (upd H1 p (.tup vs)):=bX.new hp
   refine h _ _ (upd F2 p (.tup vs)) α1 (x1.trans ((Ex.tP s2 n2).trans (g.ex S2.ext))) ((S1.of s2 (List.prefix_refl _) S2).grow g) ?_
   show Rep X.K _ (.tup ts) _
   rw[Rep]
   exact⟨p,vs,rfl,SqT.of aV,aI.mono (g.same S2.ext) _ _ r2⟩
theorem tR{K:PySem.W.Frag}{F:Hp}{α:List Addr}:∀{xs:List SV}{vs:List V}{ys:List (Sum T Nat)},Paired (λv x=>fB K F α v x) vs xs→boxed xs=some ys→Paired (xj K F α) vs ys
 | [],vs,ys,p,h=>by cases p;cases h;exact .nil
 | .val t::xs,vs,ys,p,h=>by
  cases p with
  | cons hv p =>
   obtain⟨zs,h1,rfl⟩:=Option.map_eq_some_iff.mp (show (boxed xs).map _=some ys from h)
   exact .cons hv (tR p h1)
 | .cel t::xs,vs,ys,p,h=>by
  cases p with
  | cons hv p =>
   obtain⟨zs,h1,rfl⟩:=Option.map_eq_some_iff.mp (show (boxed xs).map _=some ys from h)
   exact .cons hv (tR p h1)
 | .box t::xs,vs,ys,p,h=>by cases h
theorem xk{es:List Expr}{ds:List D}{x1}(h:CA X es ds)(hl:ds.length≤1000:=by decide):CE X (.Tuple es x1 pos) (rX ds) :=
 PE.imp (As h) λσ H Q ax=>by
  obtain⟨F,α,e,μ,S,h⟩:=ax
  refine⟨F,α,e,μ,S,(fC (R.wp_bind h)).mono (λxs μ1 eA vs H1 F1 α1 x1 S1 o1=>?_) λ_ _ h=>h⟩
  obtain⟨hn,h⟩:=eA
  obtain⟨ys,hy,h⟩:=R.bL (R.wp_bind h)
  refine⟨ny hn o1 hl,λp hp=>?_⟩
  have g:bX F1 H1 (upd F1 p (.tup vs)) (upd H1 p (.tup vs)):=bX.new hp
  refine h _ _ (upd F1 p (.tup vs)) α1 (x1.trans (g.ex S1.st.ext)) (S1.grow g) ?_
  exact⟨p,vs,rfl,SqT.of aV,Paired.imp' (λ_ _ z=>xj.mono (g.same S1.st.ext) (List.prefix_refl _) z) (tR o1 hy)⟩
def tF(X:Cx)(d:D):TE:=λσ H Q=>∃F α e μ,Sim X.K F α e μ σ H∧(d e μ).wp (λx μ'=>∃t,x = .val t ∧
 ∀p H' F' α',Ex F α H F' α' H'→Sim X.K F' α' e μ' σ H'→H p=none→F' p=none→p∉α'→kO X.K F' H' p t→Q (.ref p) H') (fe X F α H e)
def CF(X:Cx)(e:Expr)(d:D):Prop:=PE X e (tF X d)∧∀e μ x μ',d e μ = .ok x μ'→∃t,x = .val t
theorem R.FK{P:SV→ag→Prop}{r:R SV}{E:T→ag→Prop}(h:r.wp P E):r.wp (λx μ=>r = .ok x μ∧P x μ) E:=by
 cases r with
 | ok a μ=>exact⟨rfl,h⟩
 | err c μ=>exact h
 | bad=>exact h
theorem y_{σ:St}{H:Hp}{Q:VK}(h2:∀e μ x μ',da e μ = .ok x μ'→∃t,x = .val t)(h:tD X da σ H Q):tF X da σ H Q:=by
 obtain⟨F,α,e,μ,S,hd⟩:=h
 refine⟨F,α,e,μ,S,(R.FK hd).mono (λx μ' ax=>?_) λ_ _ h=>h⟩
 obtain⟨hx,post⟩:=ax
 obtain⟨t,rfl⟩:=h2 e μ x μ' hx
 refine⟨t,rfl,λp H1 F1 α1 x1 S1 h0 hp hn c=>?_⟩
 obtain⟨o,ho⟩:=c.there
 have s2:aX F1 (upd F1 p o):=λb z hz=>by
  rw[aQ (λq=>by subst q;rw[hp] at hz;cases hz)];exact hz
 have st:dH X.K (upd F1 p o) α1 μ' H1:=by
  refine⟨λb z hz=>?_,S1.st.len,S1.st.nd,S1.st.there,λk b u a' h1 h2=>?_⟩
  ·by_cases eb:b=p
   ·subst eb;rw[aV] at hz;cases hz;exact ho
   ·rw[aQ eb] at hz;exact S1.st.ext b z hz
  ·have na:a'≠p:=λq=>by subst q;exact hn (List.mem_of_getElem? h2)
   obtain⟨c1,c2⟩:=S1.st.cell k b u a' h1 h2
   refine⟨λhb=>⟨by rw[aQ na];exact (c1 hb).1,?_⟩,λhb=>Rep.mono s2 _ _ (c2 hb)⟩
   have d2:=(c1 hb).2
   cases u with
   | lst ts=>obtain⟨vs,w1,w2⟩:=d2;exact⟨vs,w1,aI.mono s2 _ _ w2⟩
   | dct ts=>obtain⟨vs,w1,w2⟩:=d2;exact⟨vs,w1,bR.mono s2 _ _ w2⟩
   | _=>exact d2.elim
 refine post _ _ (upd F1 p o) α1 (x1.ice h0 hp) (S1.of s2 (List.prefix_refl _) st) ?_
 show Rep X.K _ t _
 cases t with
 | lst ts=>obtain⟨vs,w1,w2⟩:=c;rw[w1] at ho;cases ho;rw[Rep];exact⟨p,vs,rfl,SqL.of aV,aI.mono s2 _ _ w2⟩
 | dct ts=>obtain⟨vs,w1,w2⟩:=c;rw[w1] at ho;cases ho;rw[Rep];exact⟨p,vs,rfl,aV,bR.mono s2 _ _ w2⟩
 | _=>exact c.elim
theorem CF.ce(h:CF X a da):CE X a da:=PE.imp h.1 λσ H Q q=>y_ h.2 q
theorem Dw{σ:St}{H:Hp}{Q:VK}(h2:∀e μ x μ',da e μ = .ok x μ'→∃t,x = .val t)(h:tD X (dP da) σ H Q):tF X da σ H Q:=by
 obtain⟨F,α,e,μ,S,hd⟩:=h
 rw[tj] at hd
 refine⟨F,α,e,μ,S,(R.FK (R.wp_bind hd)).mono (λx μ1 ax=>?_) λ_ _ h=>h⟩
 obtain⟨hx,post⟩:=ax
 obtain⟨t,rfl⟩:=h2 e μ x μ1 hx
 refine⟨t,rfl,λp H1 F1 α1 x1 S1 h0 hp hn c=>?_⟩
 obtain⟨o,ho⟩:=c.there
 have ox:∀{k:Nat}{a:Addr},(α1++[p])[k]?=some a→(k<α1.length∧α1[k]?=some a)∨(k=α1.length∧a=p):=λ{k a} h=>by
  by_cases hk:k<α1.length
  ·rw[List.getElem?_append_left hk] at h;exact .inl ⟨hk,h⟩
  ·rw[List.getElem?_append_right (by lia)] at h
   by_cases h0:k-α1.length=0
   ·rw[h0] at h;simp at h;exact .inr ⟨by lia,h.symm⟩
   ·rw[List.getElem?_eq_none (by simp;lia)] at h;cases h
 have st:dH X.K F1 (α1++[p]) (μ1++[(true,t)]) H1:=by
  refine⟨S1.st.ext,by simp[S1.st.len],?_,λk a h=>?_,λk b u a h1 h2=>?_⟩
  ·rw[List.nodup_append]
   refine⟨S1.st.nd,by simp,λa ha b hb=>?_⟩
   simp at hb
   subst hb
   exact λq=>hn (by rw[← q];exact ha)
  ·rcases ox h with ⟨_,g⟩|⟨_,rfl⟩
   ·exact S1.st.there k a g
   ·exact⟨o,ho⟩
  ·rcases ox h2 with ⟨hk,g⟩|⟨hk,rfl⟩
   ·rw[List.getElem?_append_left (by rw[← S1.st.len];exact hk)] at h1
    exact S1.st.cell k b u a h1 g
   ·rw[hk,S1.st.len] at h1
    simp at h1
    obtain⟨rfl,rfl⟩:=h1
    exact⟨λ_=>⟨hp,c⟩,λz=>(by cases z)⟩
 refine post _ _ F1 (α1++[p]) (x1.more h0) (S1.of (aX.refl _) (List.prefix_append _ _) st) ⟨p,?_,rfl⟩
 rw[List.getElem?_append_right (by rw[S1.st.len];exact Nat.le_refl _),S1.st.len]
 simp
theorem CF.cell(h:CF X a da):CE X a (dP da):=PE.imp h.1 λσ H Q q=>Dw h.2 q
theorem dM{K:PySem.W.Frag}{F H:Hp}{α:List Addr}{μ:ag}{p:Addr}(S:dH K F α μ H)(h:H p=none):p∉α:=λhm=>by
 obtain⟨k,hk⟩:=List.mem_iff_getElem?.mp hm
 obtain⟨o,ho⟩:=S.there k p hk
 rw[h] at ho;cases ho
theorem dH.lay{K:PySem.W.Frag}{F H:Hp}{α:List Addr}{μ:ag}{p:Addr}{o:HO}(S:dH K F α μ H)(h:H p=none):dH K F α μ (upd H p o):=by
 have hup:∀c z,H c=some z→(upd H p o) c=some z:=λc z hz=>by
  rw[aQ (λq=>by subst q;rw[h] at hz;cases hz)];exact hz
 refine⟨λa z hz=>hup _ _ (S.ext a z hz),S.len,S.nd,λk a g=>?_,λk b u a h1 h2=>?_⟩
 ·obtain⟨z,hz⟩:=S.there k a g
  exact⟨z,hup _ _ hz⟩
 ·obtain⟨c1,c2⟩:=S.cell k b u a h1 h2
  refine⟨λhb=>⟨(c1 hb).1,?_⟩,c2⟩
  have d2:=(c1 hb).2
  cases u with
  | lst ts=>obtain⟨vs,w1,w2⟩:=d2;exact⟨vs,hup _ _ w1,w2⟩
  | dct ts=>obtain⟨vs,w1,w2⟩:=d2;exact⟨vs,hup _ _ w1,w2⟩
  | _=>exact d2.elim
theorem eD{es:List Expr}{ds:List D}(h:CA X es ds)(hl:ds.length≤1000:=by decide):CF X (.List es pos) (eY ds) :=
 ⟨PE.imp (E5 h) λσ H Q ax=>by
  obtain⟨F,α,e,μ,S,h⟩:=ax
  refine⟨F,α,e,μ,S,(fC (R.wp_bind h)).mono (λxs μ1 eA vs H1 F1 α1 x1 S1 o1=>?_) λ_ _ h=>h⟩
  obtain⟨hn,h⟩:=eA
  have h:=R.wp_bind h
  cases hz:eJ xs μ1 with
  | err c μ2 =>
   exact absurd hz (sA xs μ1 c μ2)
  | bad=>rw[hz] at h;exact h.elim
  | ok ts μ2 =>
   rw[hz] at h
   obtain⟨t,e1,post⟩:=h
   cases e1
   obtain⟨F2,s2,n2,S2,r2⟩:=sE S1.st o1 hz
   refine⟨ny hn o1 hl,λp hp=>?_⟩
   exact post p _ F2 α1 (x1.trans ((Ex.tP s2 n2).trans (Ex.lay hp))) (S1.of s2 (List.prefix_refl _) (S2.lay hp)) (x1.was S1.st hp) (S2.ext.free hp) (dM S2 hp) ⟨vs,aV,r2⟩,
 λe μ x μ' h=>by
  unfold eY at h
  obtain⟨xs,μ1,hx,h⟩:=R.a_ h
  obtain⟨ts,μ2,hz,h⟩:=R.a_ h
  cases h
  exact⟨_,rfl⟩⟩
theorem I_{f:T→Option T}{e:Slots}{μ μ':ag}{x:SV}(h:dUn f da e μ = .ok x μ'):∃t,x = .val t:=by
 unfold dUn at h
 obtain⟨x,μ1,hx,h⟩:=R.a_ h
 obtain⟨h9,rfl⟩:=R.oj h
 obtain⟨t,w',ht,h,rfl⟩:=om h9
 exact⟨_,rfl⟩
theorem wa{σ:St}{H:Hp}{Q:List V→Hp→Prop}(h:tD X da σ H λv H'=>Q [v] H'):tDA X [da] σ H Q:=by
 obtain⟨F,α,e,μ,S,h⟩:=h
 refine⟨F,α,e,μ,S,?_⟩
 rw[bH]
 cases q:da e μ with
 | err c μ1=>rw[q] at h;exact h
 | bad=>rw[q] at h;exact h
 | ok x μ1 =>
  rw[q] at h
  intro vs H1 F1 α1 x1 S1 o1
  cases o1 with
  | cons o1 o2=>cases o2;exact h _ H1 F1 α1 x1 S1 o1
theorem Kp{r:List V→Hp→VK→Prop}{f:T→Option T}(hs:tQ X.K r f)(σ:St)(H:Hp)(Q:VK)(h:tD X (dUn f da) σ H Q):tCB r (tDA X [da]) σ H Q :=
 wa (one (r:=λv H Q=>r [v] H Q) hs σ H Q h)
theorem L7{r:List V→Hp→VK→Prop}{f:T→Option T}(hs:y9 X.K r f)(σ:St)(H:Hp)(Q:VK)(h:tF X (dUn f da) σ H Q):tCB r (tDA X [da]) σ H Q:=by
 refine wa ?_
 obtain⟨F,α,e,μ,S,h⟩:=h
 refine⟨F,α,e,μ,S,?_⟩
 refine (R.wp_bind h).mono (λx μ1 h v H1 F1 α1 x1 S1 o1=>?_) λ_ _ h=>h
 obtain⟨w,h9,t',e1,post⟩:=R.bL h
 obtain⟨t,w',ht,h,e2⟩:=om h9
 subst e1
 cases e2
 exact hs F1 H1 _ t _ Q S1.st.ext (bo S1.st o1 ht) h λp o hp c =>
  post p _ F1 α1 (x1.trans (Ex.lay hp)) (S1.of (aX.refl _) (List.prefix_refl _) (S1.st.lay hp)) (x1.was S1.st hp) (S1.st.ext.free hp) (dM S1.st hp) c
end
theorem AO{x:SV}{k:Bool}(h:asB x=some k):x = .val (.bl k):=by
 cases x with
 | val t=>cases t<;>first|(cases h;rfl)|cases h
 | cel j=>cases h
 | box xs=>cases h
theorem pM{β:Type}{r:R SV}{f:Bool→ag→R β}{Q:β→ag→Prop}{E:T→ag→Prop}(h:(r.bind λy μ1=>(R.lift (asB y) μ1).bind f).wp Q E) :
  r.wp (λx μ=>∃k,x = .val (.bl k)∧(f k μ).wp Q E) E:=(R.wp_bind h).mono (λx μ h=>by
 obtain⟨k,hk,h⟩:=R.bL (R.wp_bind h)
 exact⟨k,AO hk,h⟩) λ_ _ h=>h
def CW(X:Cx)(e:Expr)(d:D):Prop:=PW X e (tDT X d)
theorem PW.imp{X:Cx}{e:Expr}{t t':TT}(h:PW X e t)(i:∀σ H Q,t' σ H Q→t σ H Q):PW X e t':=λwhole pins s σ H Q I q=>h whole pins s σ H Q I (i σ H Q q)
theorem wb{X:Cx}{d:D}{σ:St}{H:Hp}{Q:Bool→Hp→Prop}(h:tDT X d σ H Q):tD X d σ H λx H'=>∃k,x = .bl k∧Q k H':=by
 obtain⟨F,α,e,μ,S,h⟩:=h
 refine⟨F,α,e,μ,S,h.mono (λx μ' ax v H' F' α' y S' o=>?_) λ_ _ h=>h⟩
 obtain⟨b,hb,post⟩:=ax
 subst hb
 exact⟨b,Rep.jr (K:=X.K) (F:=F') o,post H' F' α' y S'⟩
section
variable{X:Cx}{a b c:Expr}{da db dc:D}{pos:Pos}{rest:List Expr}
theorem iV(h:CE X a da)(he:∀whole,isTrue a X.env whole=(do let v ← whole;standAt a.pos;holding [v] (truthy v)):=by intro _;rfl):CT X a da :=
 PT.imp (K5 h he) λσ H Q q=>wb q
theorem qw{op:CmpOp}{r:R2}{f:T→T→Option T}(ho:OpR X (compareOp op) r)(hs:fN X.K r f)(hm:behindInMarks op b=false)(ha:CE X a da)(hb:CE X b db):CT X (.Compare a [op] [b] pos) (ai f da db) :=
 PT.imp (Ib ho ha hb hm) λσ H Q q=>two hs σ H _ (wb q)
theorem kP(h:CT X a da):CT X (.UnaryOp .Not a pos) (kJ da):=PT.imp (K7 h) λσ H Q ax=>by
 obtain⟨F,α,e,μ,S,h⟩:=ax
 refine⟨F,α,e,μ,S,(pM h).mono (λx μ1 ⟨k,hx,b,hb,h⟩=>⟨k,hx,?_⟩) λ_ _ h=>h⟩
 cases hb
 exact h
theorem km(h:CT X a da):CW X (.BoolOp .Or [a] pos) da:=K6 h
theorem CW.ct(h:CW X a da):CT X a da:=PW.pt h
theorem wc(ha:CT X a da)(hb:CW X (.BoolOp .Or (b::rest) pos) db):CW X (.BoolOp .Or (a::b::rest) pos) (dOr da db) :=
 PW.imp (NR ha hb) λσ H Q ax=>by
  obtain⟨F,α,e,μ,S,h⟩:=ax
  refine⟨F,α,e,μ,S,(pM h).mono (λx μ1 ⟨k,hx,h⟩=>⟨k,hx,λH1 F1 α1 x1 S1=>?_⟩) λ_ _ h=>h⟩
  cases k with
  | true =>
   rw[if_pos rfl] at h ⊢
   obtain⟨b,hb,h⟩:=h
   cases hb
   exact h H1 F1 α1 x1 S1
  | false =>
   rw[if_neg Bool.false_ne_true] at h ⊢
   exact⟨F1,α1,e,μ1,S1,h.mono (λy μ2 ⟨b,hb,h⟩=>⟨b,hb,λH2 F2 α2 x2 S2=>h H2 F2 α2 (x1.trans x2) S2⟩) λ_ _ h=>h.mono x1⟩
theorem FL{op}(h:CE X a da):CE X (.BoolOp op [a] pos) da:=K8 h
theorem AQ(ha:CE X a da)(hb:CE X (.BoolOp .And (b::rest) pos) db):CE X (.BoolOp .And (a::b::rest) pos) (w_ da db) :=
 PE.imp (K9 ha hb) λσ H Q ax=>by
  obtain⟨F,α,e,μ,S,h⟩:=ax
  refine⟨F,α,e,μ,S,(pM h).mono (λx μ1 eA v H1 F1 α1 x1 S1 o1=>?_) λ_ _ h=>h⟩
  obtain⟨k,hx,h⟩:=eA
  subst hx
  refine⟨k,Rep.jr (K:=X.K) (F:=F1) o1,?_⟩
  cases k with
  | true =>
   rw[if_pos rfl] at h ⊢
   exact⟨F1,α1,e,μ1,S1,h.mono (λy μ2 h v H2 F2 α2 x2 S2 o2=>h v H2 F2 α2 (x1.trans x2) S2 o2) λ_ _ h=>h.mono x1⟩
  | false =>
   rw[if_neg Bool.false_ne_true] at h ⊢
   exact h _ H1 F1 α1 x1 S1 (Rep.bl' (K:=X.K) (F:=F1) _)
theorem FO(ha:CE X a da):CE X (.UnaryOp .Not a pos) (kJ da):=PE.imp (K_ ha) λσ H Q ax=>by
 obtain⟨F,α,e,μ,S,h⟩:=ax
 refine⟨F,α,e,μ,S,(pM h).mono (λx μ1 eA v H1 F1 α1 x1 S1 o1=>?_) λ_ _ h=>h⟩
 obtain⟨k,hx,h⟩:=eA
 subst hx
 refine⟨k,Rep.jr (K:=X.K) (F:=F1) o1,?_⟩
 exact h _ H1 F1 α1 x1 S1 (Rep.bl' (K:=X.K) (F:=F1) _)
theorem L8(hc:CT X c dc)(ha:CE X a da)(hb:CE X b db):CE X (.IfExp c a b pos) (IA dc da db) :=
 PE.imp (ER hc ha hb) λσ H Q ax=>by
  obtain⟨F,α,e,μ,S,h⟩:=ax
  refine⟨F,α,e,μ,S,(pM h).mono (λx μ1 ⟨k,hx,h⟩=>⟨k,hx,λH1 F1 α1 x1 S1=>?_⟩) λ_ _ h=>h⟩
  cases k with
  | true =>
   rw[if_pos rfl] at h ⊢
   exact⟨F1,α1,e,μ1,S1,h.mono (λy μ2 h v H2 F2 α2 x2 S2 o2=>h v H2 F2 α2 (x1.trans x2) S2 o2) λ_ _ h=>h.mono x1⟩
  | false =>
   rw[if_neg Bool.false_ne_true] at h ⊢
   exact⟨F1,α1,e,μ1,S1,h.mono (λy μ2 h v H2 F2 α2 x2 S2 o2=>h v H2 F2 α2 (x1.trans x2) S2 o2) λ_ _ h=>h.mono x1⟩
end
def bc(X:Cx)(F:Hp)(α:List Addr)(H:Hp)(D:Ends):RS→Prop
 | .nx e' μ'=>∀σ' H' F' α',Ex F α H F' α' H'→Sim X.K F' α' e' μ' σ' H'→D.nx σ' H'
 | .rt x μ'=>∀v H' F' α',Ex F α H F' α' H'→dH X.K F' α' μ' H'→fB X.K F' α' v x→D.rt v H'
 | .bk e' μ'=>∀σ' H' F' α',Ex F α H F' α' H'→Sim X.K F' α' e' μ' σ' H'→D.bk σ' H'
 | .ct e' μ'=>∀σ' H' F' α',Ex F α H F' α' H'→Sim X.K F' α' e' μ' σ' H'→D.ct σ' H'
 | .err c e' μ'=>fe X F α H e' c μ'
 | .bad=>False
theorem bc.mono{X:Cx}{F F' H H':Hp}{α α':List Addr}{D:Ends}{r:RS}(x:Ex F α H F' α' H')(h:bc X F α H D r):bc X F' α' H' D r:=by
 cases r with
 | nx e μ=>exact λσ H F2 α2 x2=>h σ H F2 α2 (x.trans x2)
 | rt y μ=>exact λσ H F2 α2 x2=>h σ H F2 α2 (x.trans x2)
 | bk e μ=>exact λσ H F2 α2 x2=>h σ H F2 α2 (x.trans x2)
 | ct e μ=>exact λσ H F2 α2 x2=>h σ H F2 α2 (x.trans x2)
 | err c e μ=>exact fe.mono x h
 | bad=>exact h
def tDS(X:Cx)(d:DS):TS:=λD σ H=>∃F α e μ,Sim X.K F α e μ σ H∧bc X F α H D (d e μ)
def CS(X:Cx)(st:Stmt)(d:DS):Prop:=PS X st (tDS X d)
def CSs(X:Cx)(st:List Stmt)(d:DS):Prop:=PSs X st (tDS X d)
theorem bc.toS{α':Type}{X:Cx}{F H:Hp}{α:List Addr}{D:Ends}{x:R α'}{e:Slots}{f:α'→ag→RS}(h:bc X F α H D (x.toS e f)):x.wp (λa μ=>bc X F α H D (f a μ)) (fe X F α H e):=by
 cases x with
 | ok a μ=>exact h
 | err c μ=>exact h
 | bad=>exact h
theorem bc.lift{α':Type}{X:Cx}{F H:Hp}{α:List Addr}{D:Ends}{o:Option α'}{μ:ag}{e:Slots}{f:α'→ag→RS}(h:bc X F α H D ((R.lift o μ).toS e f)):∃a,o=some a∧bc X F α H D (f a μ):=R.bL h.toS
theorem bc.asB{X:Cx}{F H:Hp}{α:List Addr}{D:Ends}{x:R SV}{e:Slots}{f:Bool→ag→RS}(h:bc X F α H D (x.toS e λy μ1=>(R.lift (Fw.asB y) μ1).toS e f)):x.wp (λy μ1=>∃k,y = .val (.bl k)∧bc X F α H D (f k μ1)) (fe X F α H e) :=
 h.toS.mono (λy μ h=>by
  obtain⟨k,hk,h⟩:=h.lift
  exact⟨k,AO hk,h⟩) λ_ _ h=>h
section
variable{X:Cx}{st:Stmt}{sts:List Stmt}{d d1 d2:DS}{e:Expr}{de:D}{pos:Pos}
theorem bF:CSs X [] dA:=PSs.imp HY λD σ H ⟨F,α,e,μ,S,h⟩=>h σ H F α Ex.refl S
theorem ay(h:CS X st d):CSs X [st] d:=HZ h
theorem ak(h1:CS X st d1)(h2:CSs X sts d2):CSs X (st::sts) (aA d1 d2):=PSs.imp (ES h1 h2) λD σ H ax=>by
 obtain⟨F,α,e,μ,S,h⟩:=ax
 refine⟨F,α,e,μ,S,?_⟩
 unfold aA at h
 cases q:d1 e μ with
 | nx e1 μ1 =>
  rw[q] at h
  exact λσ' H' F' α' x S'=>⟨F',α',e1,μ1,S',h.mono x⟩
 | rt x μ1=>rw[q] at h;exact h
 | bk e1 μ1=>rw[q] at h;exact h
 | ct e1 μ1=>rw[q] at h;exact h
 | err c e1 μ1=>rw[q] at h;exact h
 | bad=>rw[q] at h;exact h
theorem B_(he:CE X e de)(hs:swapsWith e none pos.line X.env=pure false:=by rfl):CS X (.Expr e pos) (yX de):=PS.imp (BK he hs) λD σ H ⟨F,α,e,μ,S,h⟩ =>
 ⟨F,α,e,μ,S,(bc.toS h).mono (λx μ1 h v H1 F1 α1 x1 S1 _=>h σ H1 F1 α1 x1 S1) λ_ _ h=>h⟩
theorem aK(he:CE X e de):CS X (.Return (some e) pos) (aS de):=PS.imp (La he) λD σ H ⟨F,α,e,μ,S,h⟩ =>
 ⟨F,α,e,μ,S,(bc.toS h).mono (λx μ1 h v H1 F1 α1 x1 S1 o1=>h v H1 F1 α1 x1 S1.st o1) λ_ _ h=>h⟩
theorem slot_set{e:Slots}{i j:Nat}{x y:SV}(h:slot (e.set i (some x)) j=some y):(j=i∧y=x)∨slot e j=some y:=by
 unfold slot at h
 by_cases q:i=j
 ·subst q
  by_cases hl:i<e.length
  ·rw[List.getElem?_set_self hl] at h
   cases h
   exact .inl ⟨rfl,rfl⟩
  ·rw[List.getElem?_eq_none (by rw[List.length_set];omega)] at h
   cases h
 ·rw[List.getElem?_set_ne q] at h
  exact .inr h
theorem Sim.set{K:PySem.W.Frag}{F H:Hp}{α:List Addr}{e:Slots}{μ:ag}{σ:St}{v:V}{x:SV}{i:Nat}(S:Sim K F α e μ σ H)(o:fB K F α v x):Sim K F α (e.set i (some x)) μ (σ.set i (some v)) H:=by
 refine⟨S.st,λj y h=>?_,by rw[List.length_set,List.length_set,S.len]⟩
 by_cases q:i=j
 ·subst q
  have hl:i<e.length:=by
   unfold slot at h
   by_cases hl:i<e.length
   ·exact hl
   ·rw[List.getElem?_eq_none (by rw[List.length_set];omega)] at h
    cases h
  have hy:y=x:=by
   unfold slot at h
   rw[List.getElem?_set_self hl] at h
   cases h;rfl
  subst hy
  exact⟨v,by rw[List.getElem?_set_self (by rw[← S.len];exact hl)],o⟩
 ·rcases slot_set h with ⟨rfl,_⟩|h
  ·exact absurd rfl q
  ·obtain⟨w,h1,h2⟩:=S.sl j y h
   exact⟨w,by rw[List.getElem?_set_ne q];exact h1,h2⟩
theorem aD(i:Nat){x:Str}{pos':Pos}(hN:X.N.Nodup)(he:CE X e de)(hi:X.N[i]?=some x:=by rfl)(hx:Loc X.env.scope x:=by first|exact Or.inl rfl|exact Or.inr rfl)(hs:swapsWith e (some (.Name x pos')) pos.line X.env=pure false:=by rfl)
  (hf:X.fn x=true∨X.env.scope.names.lookup x=some .local:=by first|exact .inl rfl|exact .inr rfl|assumption):CS X (.Assign [.Name x pos'] e pos) (aE i de) :=
 PS.imp (Lg hN hi hx he hs hf) λD σ H ⟨F,α,e,μ,S,h⟩ =>
  ⟨F,α,e,μ,S,(bc.toS h).mono (λx μ1 h v H1 F1 α1 x1 S1 o1=>h _ H1 F1 α1 x1 (S1.set o1)) λ_ _ h=>h⟩
theorem dD{c:Expr}{as bs:List Stmt}{dc:D}(hc:CT X c dc)(ha:CSs X as d1)(hb:CSs X bs d2):CS X (.If c as bs pos) (sIf dc d1 d2):=PS.imp (NW hc ha hb) λD σ H ax=>by
 obtain⟨F,α,e,μ,S,h⟩:=ax
 refine⟨F,α,e,μ,S,(bc.asB h).mono (λx μ1 ⟨k,hk,h⟩=>⟨k,hk,λH1 F1 α1 x1 S1=>?_⟩) λ_ _ h=>h⟩
 cases k with
 | true=>exact⟨F1,α1,e,μ1,S1,bc.mono x1 h⟩
 | false=>exact⟨F1,α1,e,μ1,S1,bc.mono x1 h⟩
theorem AR:CS X st tL:=PS.imp ET λD σ H ⟨F,α,e,μ,S,h⟩=>h
end
end Fw
namespace Fw
open PySem PySem.Spec PyProof.Rows L2
def OA(K:PySem.W.Frag)(F:Hp)(α:List Addr)(J:It)(W:Wk):Prop:=∀F2 α2 μ2 H2,aX F F2→α <+: α2→dH K F2 α2 μ2 H2→W.same μ2 →
 (∀i t,W.items[i]?=some t→J.go i H2∧∀x H3,J.yld i H2 x H3→∃F3,bX F2 H2 F3 H3∧Rep K F3 t x)∧J.stop W.items.length H2
def tDI(X:Cx)(d:DI):TI:=λσ H R=>∃F α e μ,Sim X.K F α e μ σ H∧(d e μ).wp (λW μ' =>
 ∀J H' F' α',Ex F α H F' α' H'→Sim X.K F' α' e μ' σ H'→OA X.K F' α' J W→R J H') (fe X F α H e)
def CI(X:Cx)(tg e:Expr)(d:DI):Prop:=PI X tg e (tDI X d)
theorem PI.imp{X:Cx}{tg e:Expr}{t t':TI}(h:PI X tg e t)(i:∀σ H R,t' σ H R→t σ H R):PI X tg e t':=λpins s σ H R I q=>h pins s σ H R I (i σ H R q)
def OB(K:PySem.W.Frag)(tl:TE):TI:=λσ H R=>tl σ H λx H1=>∃a,x = .ref a∧(((∃xs,SqL K H1 a xs)∧R (Itl K a) H1)∨((∃xs,SqT K H1 a xs)∧R (Itt K a) H1))
section
variable{X:Cx}{tg:Expr}
theorem Ja{l:Expr}{tl:TE}(hl:PE X l tl):PI X tg l (OB X.K tl):=by
 intro pins s σ H R I h
 refine thn (hl pins s σ H _ I h) λv s1 ax=>?_
 obtain⟨x,H1,I1,r1,q1⟩:=ax
 obtain⟨a,e,q⟩:=q1
 subst e
 cases r1
 rcases q with ⟨⟨xs,hq⟩,q⟩|⟨⟨xs,hq⟩,q⟩
 ·obtain⟨its,rv,p,hz⟩:=I1.list hq
  refine wpAny_pyIter_list p.isList ?_
  refine⟨s1.heap.objs.size,[s1.heap.objs.size],_,_,H1,rfl,I1.kept (t':=s1.toks) λb o e=>Heap.get?_push_of_some _ e,C5 a _,⟨_,Heap.get?_push_size _ rfl,rfl,rfl⟩,λb hb=>?_,q⟩
  have e:b=s1.heap.objs.size:=by simpa using hb
  subst e
  exact I1.yG (Nat.le_refl _) (I1.hok.fresh (Nat.le_refl _))
 ·obtain⟨its,rv,p,hz⟩:=I1.tuple hq
  refine wpAny_pyIter_tuple (show s1.heap.IsTuple a its.toArray from p) ?_
  refine⟨s1.heap.objs.size,[s1.heap.objs.size],_,_,H1,rfl,I1.kept (t':=s1.toks) λb o e=>Heap.get?_push_of_some _ e,An a _,⟨_,Heap.get?_push_size _ rfl,rfl,rfl⟩,λb hb=>?_,q⟩
  have e:b=s1.heap.objs.size:=by simpa using hb
  subst e
  exact I1.yG (Nat.le_refl _) (I1.hok.fresh (Nat.le_refl _))
theorem gI{a:Expr}{da:D}(h:CE X a da):CI X tg a (h7 da):=PI.imp (Ja h) λσ H R0 ax=>by
 obtain⟨F,α,e,μ,S,h⟩:=ax
 refine⟨F,α,e,μ,S,(R.wp_bind h).mono (λx μ1 h v H1 F1 α1 x1 S1 o1=>?_) λ_ _ h=>h⟩
 obtain⟨ts,ht,post⟩:=R.bL (R.wp_bind h)
 obtain⟨t,hr,ht⟩:=Option.bind_eq_some_iff.mp ht
 have n1:=bo S1.st o1 hr
 cases t with
 | lst us =>
  cases ht
  obtain⟨a,vs,rfl,hq,hl⟩:=n1
  refine⟨a,rfl,.inl ⟨⟨vs,hq⟩,post _ H1 F1 α1 x1 S1 λF2 α2 μ2 H2 s2 p2 S2 same=>?_⟩⟩
  obtain⟨a',vs',e1,hq2,hl2⟩:=bo S2 (o1.mono s2 p2) ((show rd μ2 x=rd μ1 x from same).trans hr)
  cases e1
  refine⟨λi t hi=>?_,⟨vs',hq2,by rw[← hl2.length];exact Nat.le_refl _⟩⟩
  obtain⟨v,hv,rv⟩:=hl2.get hi
  exact⟨⟨vs',v,hq2,hv⟩,λy H3 eA=>by
   obtain⟨e3,hy⟩:=eA
   subst e3
   have:=hy vs' hq2
   rw[hv] at this;cases this
   exact⟨F2,bX.refl,rv⟩⟩
 | tup us =>
  cases ht
  obtain⟨a,vs,rfl,hq,hl⟩:=n1
  refine⟨a,rfl,.inr ⟨⟨vs,aX.kj S1.st.ext hq⟩,post _ H1 F1 α1 x1 S1 λF2 α2 μ2 H2 s2 p2 S2 same=>?_⟩⟩
  obtain⟨a',vs',e1,hq2,hl2⟩:=bo S2 (o1.mono s2 p2) ((show rd μ2 x=rd μ1 x from same).trans hr)
  have hq2:=aX.kj S2.ext hq2
  cases e1
  refine⟨λi t hi=>?_,⟨vs',hq2,by rw[← hl2.length];exact Nat.le_refl _⟩⟩
  obtain⟨v,hv,rv⟩:=hl2.get hi
  exact⟨⟨vs',v,hq2,hv⟩,λy H3 yF=>by
   obtain⟨e3,hy⟩:=yF
   subst e3
   have:=hy vs' hq2
   rw[hv] at this;cases this
   exact⟨F2,bX.refl,rv⟩⟩
 | _=>cases ht
theorem wd:∀{n:Nat}{lo:Int}{i:Nat}{t:T},(bW lo n)[i]?=some t→i<n∧t = .int (lo+i)
 | 0,lo,i,t,h=>by simp[bW] at h
 | n+1,lo,0,t,h=>by
  simp[bW] at h
  subst h
  exact⟨Nat.succ_pos _,by simp⟩
 | n+1,lo,i+1,t,h=>by
  have h:(bW (lo+1) n)[i]?=some t:=by simpa [bW] using h
  obtain⟨h1,h2⟩:=wd h
  exact⟨Nat.succ_lt_succ h1,by rw[h2];congr 1;omega⟩
theorem pN:∀(n:Nat) (lo:Int),(bW lo n).length=n
 | 0,_=>rfl
 | n+1,lo=>by rw[bW,List.length_cons,pN]
theorem L9{K:PySem.W.Frag}{F:Hp}{α:List Addr}(lo:Int)(n:Nat):OA K F α (Itr lo n) ⟨bW lo n,λ_=>True⟩:=λF2 α2 μ2 H2 s2 p2 S2 _=>by
 refine⟨λi t hi=>?_,?_⟩
 ·obtain⟨h1,rfl⟩:=wd hi
  exact⟨h1,λx H3 ax=>by obtain⟨e1,e2⟩:=ax;subst e1;subst e2;exact⟨F2,bX.refl,Rep.jJ _⟩⟩
 ·show n≤(bW lo n).length
  rw[pN];exact Nat.le_refl _
theorem za{t:T}{i:Int}(h:l_ t=some i):t = .int i:=by
 cases t<;>first|(cases h;rfl)|cases h
theorem cM{a:Expr}{da:D}{p pos:Pos}(hm:X.mg "range"=none)(h:CE X a da)(hg:Gl X "range":=by rfl)(hs:starEach [a] X.env=[(false,eval a X.env)]:=by rfl):CI X tg (.Call (.Name "range" p) [a] [] pos) (bx da) :=
 PI.imp (C6 hg hm (af h az hs) hs) λσ H R0 ax=>by
  obtain⟨F,α,e,μ,S,h⟩:=ax
  refine wa ⟨F,α,e,μ,S,(R.wp_bind h).mono (λx μ1 h v H1 F1 α1 x1 S1 o1=>?_) λ_ _ h=>h⟩
  obtain⟨j,ht,h⟩:=R.bL (R.wp_bind h)
  obtain⟨t,hr,ht⟩:=Option.bind_eq_some_iff.mp ht
  cases za ht
  by_cases hb':fh j=true
  ·rw[if_pos hb'] at h
   have hb:=Du hb'
   cases (bo S1.st o1 hr).int
   exact⟨j,rfl,hb.1,hb.2,h _ H1 F1 α1 x1 S1 (L9 0 j.toNat)⟩
  ·rw[if_neg hb'] at h;exact h.elim
theorem OC{da db:D}{σ:L2.St}{H:Hp}{Q:List V→Hp→Prop}(h:∃F α e μ,Sim X.K F α e μ σ H∧(da e μ).wp (λx μ1=>(db e μ1).wp (λy μ2=>∀v u H' F' α',Ex F α H F' α' H'→Sim X.K F' α' e μ2 σ H'→fB X.K F' α' v x→fB X.K F' α' u y→Q [v,u] H') (fe X F α H e)) (fe X F α H e)):tDA X [da,db] σ H Q:=by
 obtain⟨F,α,e,μ,S,h⟩:=h
 refine⟨F,α,e,μ,S,?_⟩
 rw[bH]
 cases q:da e μ with
 | err c μ1=>rw[q] at h;exact h
 | bad=>rw[q] at h;exact h
 | ok x μ1 =>
  rw[q] at h
  rw[R.bf,bH]
  have h:(db e μ1).wp _ _:=h
  cases q2:db e μ1 with
  | err c μ2=>rw[q2] at h;exact h
  | bad=>rw[q2] at h;exact h
  | ok y μ2 =>
   rw[q2] at h
   intro vs H1 F1 α1 x1 S1 o1
   cases o1 with
   | cons o1 o2 =>
    cases o2 with
    | cons o2 o3=>cases o3;exact h _ _ H1 F1 α1 x1 S1 o1 o2
end
def tBd(K:PySem.W.Frag)(b:BD):TG:=λv σ H Q=>∃F α e μ t e',Sim K F α e μ σ H∧Rep K F t v∧b t e=some e'∧∀σ',Sim K F α e' μ σ' H→Q σ' H
def CB(X:Cx)(tg:Expr)(b:BD):Prop:=PG X tg (tBd X.K b)
theorem PG.imp{X:Cx}{tg:Expr}{t t':TG}(h:PG X tg t)(i:∀v σ H Q,t' v σ H Q→t v σ H Q):PG X tg t':=λpins s σ H v u Q I r q=>h pins s σ H v u Q I r (i v σ H Q q)
section
variable{X:Cx}{pos:Pos}
theorem bM(i:Nat){x:Str}(hN:X.N.Nodup)(hi:X.N[i]?=some x:=by rfl)(hx:Loc X.env.scope x:=by first|exact Or.inl rfl|exact Or.inr rfl)(hf:X.fn x=true∨X.env.scope.names.lookup x=some .local:=by first|exact .inl rfl|exact .inr rfl|assumption) :
  CB X (.Name x pos) (aN i):=PG.imp (jK hN hi hx hf) λv σ H Q ax=>by
 obtain⟨F,α,e,μ,t,e',S,r,hb,q⟩:=ax
 cases hb
 exact q _ (S.set (x:=.val t) r)
theorem fD(i j:Nat){x y:Str}{px py:Pos}{k:Nat}(hN:X.N.Nodup)(hc:X.calm=true)(hi:X.N[i]?=some x:=by rfl)(hj:X.N[j]?=some y:=by rfl)(hx:Loc X.env.scope x:=by first|exact Or.inl rfl|exact Or.inr rfl)
  (hy:Loc X.env.scope y:=by first|exact Or.inl rfl|exact Or.inr rfl)
  (hf:X.fn x=true∨X.env.scope.names.lookup x=some .local:=by first|exact .inl rfl|exact .inr rfl|assumption) (hf':X.fn y=true∨X.env.scope.names.lookup y=some .local:=by first|exact .inl rfl|exact .inr rfl|assumption)
  : CB X (.Tuple [.Name x px,.Name y py] k pos) (b4 [i,j]) :=
 PG.imp (EV hc (jk (jK hN hi hx hf) (jk (jK hN hj hy hf') wU))) λv σ H Q ax=>by
  obtain⟨F,α,e,μ,t,e',S,r,hb,q⟩:=ax
  cases t with
  | tup ts =>
   unfold b4 at hb
   simp only at hb
   by_cases hl:ts.length=[i,j].length
   ·rw[if_pos hl] at hb
    rw[Rep] at r
    obtain⟨a,vs,rfl,hq,hr⟩:=r
    match ts,vs,hl,hr with
    | [t1,t2],vs,_,hr =>
     rw[aI] at hr
     obtain⟨v1,vs1,rfl,r1,hr⟩:=hr
     rw[aI] at hr
     obtain⟨v2,vs2,rfl,r2,hr⟩:=hr
     rw[aI] at hr
     subst hr
     cases hb
     exact⟨a,_,rfl,aX.kj S.st.ext hq,rfl,v1,[v2],rfl,v2,[],rfl,rfl,q _ ((S.set (x:=.val t1) r1).set (x:=.val t2) r2)⟩
   ·rw[if_neg hl] at hb;cases hb
  | _=>cases hb
end
section
variable{X:Cx}{tg iter c:Expr}{body:List Stmt}{di:DI}{b:BD}{d:DS}{dc:D}{pos:Pos}
theorem fi(hp:PassesOwn (model X.prog X.w) X.A X.env X.xe)(hc:X.calm=true)(hi:CI X tg iter di)(hg:CB X tg b)(hb:CSs X body d)(hs:∀x,foldedSetIterable iter X.env x=pure x:=by intro _;rfl) :
  CS X (.For tg iter body [] pos) (eL di b d):=PS.imp (Li hp hc hi hg hb hs) λD σ H ax=>by
 obtain⟨F,α,e,μ,S,h⟩:=ax
 refine⟨F,α,e,μ,S,(bc.toS h).mono (λW μ1 h J H1 F1 α1 x1 S1 ok=>?_) λ_ _ h=>h⟩
 refine⟨λi m σ H=>m=W.items.length-i∧i≤W.items.length∧∃F2 α2 e2 μ2,aX F1 F2∧α1 <+: α2∧Sim X.K F2 α2 e2 μ2 σ H∧bc X F2 α2 H D (forL W.same b d (W.items.drop i) e2 μ2),
  ⟨_,rfl,Nat.zero_le _,F1,α1,e,μ1,aX.refl _,List.prefix_refl _,S1,bc.mono x1 h⟩,?_⟩
 rintro i m σ2 H2 ⟨rfl,hi,F2,α2,e2,μ2,s2,p2,S2,h⟩
 by_cases hlt:i<W.items.length
 ·rw[List.drop_eq_getElem_cons hlt] at h
  unfold forL at h
  by_cases hs:W.same μ2
  ·rw[if_pos hs] at h
   obtain⟨g1,g2⟩:=ok F2 α2 μ2 H2 s2 p2 S2.st hs
   obtain⟨go,yl⟩:=g1 i W.items[i] (by simp[hlt])
   cases hb':b W.items[i] e2 with
   | none=>simp only[hb'] at h;exact h.elim
   | some e3 =>
    simp only[hb'] at h
    refine .inr ⟨go,λσ' H'=>∃F4 α4 e4 μ4,aX F1 F4∧α1 <+: α4∧Sim X.K F4 α4 e4 μ4 σ' H'∧bc X F4 α4 H' D (forL W.same b d (W.items.drop (i+1)) e4 μ4),
     λσ' H' q=>⟨W.items.length-(i+1),by omega,rfl,hlt,q⟩,λx H3 y=>?_⟩
    obtain⟨F3,gr,rp⟩:=yl x H3 y
    have x3:Ex F2 α2 H2 F3 α2 H3:=gr.ex S2.st.ext
    refine⟨F3,α2,e2,μ2,W.items[i],e3,S2.grow gr,rp,hb',λσ4 S4=>⟨F3,α2,e3,μ2,S4,?_⟩⟩
    cases q:d e3 μ2 with
    | nx e5 μ5 =>
     simp only[q] at h
     exact λσ' H' F' α' x S'=>⟨F',α',e5,μ5,s2.trans (x3.same.trans x.same),p2.trans x.pre,S',bc.mono (x3.trans x) h⟩
    | ct e5 μ5 =>
     simp only[q] at h
     exact λσ' H' F' α' x S'=>⟨F',α',e5,μ5,s2.trans (x3.same.trans x.same),p2.trans x.pre,S',bc.mono (x3.trans x) h⟩
    | bk e5 μ5 =>
     simp only[q] at h
     exact λσ' H' F' α' x S'=>h σ' H' F' α' (x3.trans x) S'
    | rt x μ5 =>
     simp only[q] at h
     exact λv H' F' α' x S'=>h v H' F' α' (x3.trans x) S'
    | err c e5 μ5=>simp only[q] at h;exact fe.mono x3 h
    | bad=>simp only[q] at h;exact h
  ·rw[if_neg hs] at h;exact h.elim
 ·have e1:i=W.items.length:=by omega
  subst e1
  rw[List.drop_length] at h
  unfold forL at h
  by_cases hs:W.same μ2
  ·rw[if_pos hs] at h
   obtain⟨g1,g2⟩:=ok F2 α2 μ2 H2 s2 p2 S2.st hs
   exact .inl ⟨g2,h σ2 H2 F2 α2 Ex.refl S2⟩
  ·rw[if_neg hs] at h;exact h.elim
theorem zb(hp:PassesOwn (model X.prog X.w) X.A X.env X.xe)(hc:CT X c dc)(hb:CSs X body d):CS X (.While c body [] pos) (kM dc d):=PS.imp (EW hp hc hb) λD σ H ax=>by
 obtain⟨F,α,e,μ,S,h⟩:=ax
 unfold kM at h
 by_cases hn:∃n,dJ dc d n e μ ≠ .bad
 ·rw[dif_pos hn] at h
  refine⟨λm σ H=>∃F2 α2 e2 μ2,Sim X.K F2 α2 e2 μ2 σ H∧bc X F2 α2 H D (dJ dc d m e2 μ2),⟨_,F,α,e,μ,S,h⟩,?_⟩
  rintro m σ H ⟨F2,α2,e2,μ2,S2,h⟩
  cases m with
  | zero=>exact h.elim
  | succ m =>
   unfold dJ at h
   refine⟨F2,α2,e2,μ2,S2,(bc.asB h).mono (λx μ3 ⟨k,hx,h⟩=>⟨k,hx,λH3 F3 α3 x3 S3=>?_⟩) λ_ _ h=>h⟩
   cases k with
   | false =>
    rw[if_neg Bool.false_ne_true] at h ⊢
    exact h σ H3 F3 α3 x3 S3
   | true =>
    rw[if_pos rfl] at h ⊢
    refine⟨λσ' H'=>∃F4 α4 e4 μ4,Sim X.K F4 α4 e4 μ4 σ' H'∧bc X F4 α4 H' D (dJ dc d m e4 μ4),λσ' H' q=>⟨m,Nat.lt_succ_self m,q⟩,F3,α3,e2,μ3,S3,?_⟩
    cases q:d e2 μ3 with
    | nx e5 μ5 =>
     rw[q] at h
     exact λσ' H' F' α' x S'=>⟨F',α',e5,μ5,S',bc.mono (x3.trans x) h⟩
    | ct e5 μ5 =>
     rw[q] at h
     exact λσ' H' F' α' x S'=>⟨F',α',e5,μ5,S',bc.mono (x3.trans x) h⟩
    | bk e5 μ5 =>
     rw[q] at h
     exact λσ' H' F' α' x S'=>h σ' H' F' α' (x3.trans x) S'
    | rt x μ5 =>
     rw[q] at h
     exact λσ' H' F' α' x S'=>h σ' H' F' α' (x3.trans x) S'
    | err c e5 μ5=>rw[q] at h;exact fe.mono x3 h
    | bad=>rw[q] at h;exact h
 ·rw[dif_neg hn] at h;exact h.elim
end
end Fw
namespace L2
open PySem PySem.Spec PyProof.Rows
theorem xl{prog:Program}{w:World}{A:Around}{R:Result→Shared→Prop}{s:Shared}{elt target iter:Expr}{ifs:List Expr}{scope:Scope}{pos:Pos}{it acc:Value}{env:Env}(I:Nat→Shared→Prop)
  (turn:∀n s,I n s→wpAny (model prog w) A (pyNext it) (λr s₁=>match r with
   | none=>R (.ok .next) s₁
   | some v=>wpAny (model prog w) A (letOwnedTupleGo target it v) (λ_ s₁'=>wpAny (model prog w) A (assign target env v) (λ_ s₂ =>
     wpAny (model prog w) A (forIn ifs true λc r=>if r=true then do let ok ← isTrue c env (eval c env);pure (ForInStep.yield ok) else pure (ForInStep.yield r)) (λok s₃ =>
      if ok=true then wpAny (model prog w) A (eval elt env) (λx s₄ =>
       wpAny (model prog w) A (call (.builtin "list.append") [acc,x]) (λ_ s₅=>∃m,m<n∧I m s₅) (λ_ _=>False) s₄) (λ_ _=>False) s₃
      else ∃m,m<n∧I m s₃) (λ_ _=>False) s₂) (λ_ _=>False) s₁') (λ_ _=>False) s₁) (λ_ _=>False) s)
  (n:Nat) (h:I n s):codeAny (model prog w) A (.compLoop (.ListComp elt [⟨target,iter,ifs,0⟩] scope pos) 0 it acc env) R s:=by
 have no:∀{α:Type}{t:Sem α}{Q:α→Shared→Prop}{E:Value→Shared→Prop}{s:Shared},wpAny (model prog w) A t Q (λ_ _=>False) s→wpAny (model prog w) A t Q E s:=λh=>wpAny_mono h (λ_ _ x=>x) λ_ _ x=>x.elim
 refine codeAny_loop rfl I (λn s hI=>?_) n h
 show wpAny _ A ((compTurn (.ListComp elt [⟨target,iter,ifs,0⟩] scope pos) 0 it acc env).onRaise (λx=>do noteFrame x env;theTreesLotGoes x)) _ _ s
 refine wpAny_noted ?_
 rw[compTurn_list]
 refine wpAny_bind (wpAny_standAt (wpAny_bind (wpAny_mono (no (turn n s hI)) (λr s₁ h₁=>?_) λ_ _ h'=>h')))
 cases r with
 | none=>exact wpAny_pure h₁
 | some v =>
  refine wpAny_bind (wpAny_mono (no h₁) (λ_ s₁' h₁'=>?_) λ_ _ h'=>h')
  refine wpAny_bind (wpAny_mono (no h₁') (λ_ s₂ h₂=>wpAny_bind (wpAny_mono (no h₂) (λok s₃ h₃=>?_) λ_ _ h'=>h')) λ_ _ h'=>h')
  cases ok with
  | false=>exact wpAny_pure ⟨rfl,h₃⟩
  | true =>
   exact wpAny_bind (wpAny_bind (wpAny_mono (no h₃) (λx s₄ h₄=>wpAny_bind (wpAny_mono (no h₄) (λ_ s₅ h₅=>wpAny_pure (wpAny_pure ⟨rfl,h₅⟩)) λ_ _ h'=>h')) λ_ _ h'=>h'))
def cN(X:Cx)(N':List Str)(scope:Scope)(cl:List (Str×Addr))(C:Addr)(s₀:Shared)(H₀:Hp)(ex:List Addr):Cx :=
 { X with N:=N',s₀:=s₀,H₀:=H₀,env:=compEnvC scope cl C X.env,outer:=X.stack,stack:=X.stack,ex:=ex,fn:=λx=>(scope.names.lookup x==some NameKind.cell),pn:=[],xe:=λ_ _=>False }
def nV(X:Cx)(ifs:List Expr)(t:TT):Prop :=
 ∀(pins:List (Addr×Obj)) (s:Shared) (σ:St) (H:Hp) (Q:Bool→Hp→Prop),Inv X pins σ H s→t σ H Q →
  wpAny (model X.prog X.w) X.A (forIn ifs true λc r=>if r=true then do let ok ← isTrue c X.env (eval c X.env);pure (ForInStep.yield ok) else pure (ForInStep.yield r)) (TP X pins σ Q) X.xe s
theorem FP{X:Cx}:nV X [] (λ_ H Q=>Q true H):=λ_ _ _ H _ I h=>wpAny_tests_nil ⟨H,I,h⟩
theorem FQ{X:Cx}{c:Expr}{t:TT}(h:PT X c t):nV X [c] t:=λpins s σ H Q I q=>wpAny_tests_one (h pins s σ H Q I q)
def vg(mp:List (Option Nat))(σ:St):St:=mp.map λo=>o.bind λj=>(σ[j]?).bind id
structure gB(X:Cx)(N':List Str)(scope:Scope)(mp:List (Option Nat)):Prop where
 kind:scope.kind = .function
 cells:(scope.names.filter λy=>y.2==NameKind.cell).length≤1
 nd:(scope.names.map (·.1)).Nodup
 loc:∀x∈scope.names,x.2 = .local→scope.names.lookup x.1=some .local
 free:∀y∈scope.names,y.2 = .free→X.env.kindOf y.1=some .cell∨X.env.kindOf y.1=some .free
 len:mp.length=N'.length
 OD:∀(i j:Nat),mp[i]?=some (some j)→∃x,N'[i]?=some x∧X.N[j]?=some x∧(x,NameKind.free)∈scope.names∧(X.env.scope.names.lookup x=some .cell∨X.env.scope.names.lookup x=some .free)
 seen:∀x,(x,NameKind.free)∈scope.names→(relabel scope X.env).names.lookup x=some .cell∨(relabel scope X.env).names.lookup x=some .free
 back:∀x,(relabel scope X.env).names.lookup x=some .cell∨(relabel scope X.env).names.lookup x=some .free→(x,NameKind.free)∈scope.names∨scope.names.lookup x=some .cell
inductive Jb(names:List (Str×NameKind))(n:Nat)(h:Heap)(acc:List (Str×Addr)):Prop where
 | no (h0:∀x,names.lookup x≠some .cell) (h1:cellsFrom n names acc=acc) (h2:pushCells h names=h)
 | one (y:Str) (h0:∀x,names.lookup x=some .cell→x=y) (hy:names.lookup y=some .cell) (h1:cellsFrom n names acc=(y,n)::acc) (h2:pushCells h names=h.push { cls:=.type "cell",data:=.cell none })
theorem zc:∀(names:List (Str×NameKind)) (n:Nat) (h:Heap) (acc:List (Str×Addr)),names.filter (λy=>y.2==NameKind.cell)=[]→(∀x,names.lookup x≠some .cell)∧cellsFrom n names acc=acc∧pushCells h names=h
 | [],n,h,acc,_=>⟨λx=>by simp,rfl,rfl⟩
 | (y,k)::names,n,h,acc,e=>by
  rw[List.filter_cons] at e
  cases hk:(k==NameKind.cell) with
  | true=>rw[if_pos (by exact hk)] at e;cases e
  | false =>
   rw[if_neg (by simp[hk])] at e
   obtain⟨h1,h2,h3⟩:=zc names n h acc e
   refine⟨λx hx=>?_,?_,?_⟩
   ·rw[List.lookup_cons] at hx
    cases hb:x==y with
    | true=>rw[hb] at hx;cases hx;simp at hk
    | false=>rw[hb] at hx;exact h1 x hx
   ·unfold cellsFrom;rw[if_neg (by simp[hk])];exact h2
   ·unfold pushCells;rw[if_neg (by simp[hk])];exact h3
theorem zd:∀(names:List (Str×NameKind)) (n:Nat) (h:Heap) (acc:List (Str×Addr)),(names.filter λy=>y.2==NameKind.cell).length≤1→(names.map (·.1)).Nodup→Jb names n h acc
 | [],n,h,acc,_,_ => .no (λx=>by simp) rfl rfl
 | (y,k)::names,n,h,acc,e,nd=>by
  rw[List.filter_cons] at e
  have nd':=List.nodup_cons.mp (by simpa using nd:(y::names.map (·.1)).Nodup)
  cases hk:(k==NameKind.cell) with
  | true =>
   rw[if_pos (by exact hk)] at e
   have e0:names.filter (λy=>y.2==NameKind.cell)=[]:=List.length_eq_zero_iff.mp (by simpa using e)
   obtain⟨h1,h2,h3⟩:=zc names (n+1) (h.push { cls:=.type "cell",data:=.cell none }) ((y,n)::acc) e0
   have ek:k = .cell:=by simpa using hk
   subst ek
   refine .one y (λx hx=>?_) (by simp) ?_ ?_
   ·rw[List.lookup_cons] at hx
    cases hb:x==y with
    | true=>exact eq_of_beq hb
    | false=>rw[hb] at hx;exact absurd hx (h1 x)
   ·unfold cellsFrom;rw[if_pos (by simp)];exact h2
   ·unfold pushCells;rw[if_pos (by simp)];exact h3
  | false =>
   rw[if_neg (by simp[hk])] at e
   have kn:k ≠ .cell:=by simpa using hk
   have lk:∀x,((y,k)::names).lookup x=some .cell→names.lookup x=some .cell:=λx hx=>by
    rw[List.lookup_cons] at hx
    cases hb:x==y with
    | true=>rw[hb] at hx;cases hx;exact absurd rfl kn
    | false=>rw[hb] at hx;exact hx
   cases zd names n h acc e nd'.2 with
   | no h0 h1 h2 =>
    refine .no (λx hx=>h0 x (lk x hx)) ?_ ?_
    ·unfold cellsFrom;rw[if_neg (by simp[hk])];exact h1
    ·unfold pushCells;rw[if_neg (by simp[hk])];exact h2
   | one z h0 hz h1 h2 =>
    have zne:(z==y)=false:=by
     have:z≠y:=λq=>by
      subst q
      exact nd'.1 (List.mem_map.mpr ⟨_,PySem.mem_of_lookup hz,rfl⟩)
     simpa using this
    refine .one z (λx hx=>h0 x (lk x hx)) (by rw[List.lookup_cons,zne];exact hz) ?_ ?_
    ·unfold cellsFrom;rw[if_neg (by simp[hk])];exact h1
    ·unfold pushCells;rw[if_neg (by simp[hk])];exact h2
theorem ze{M:Model}{A:Around}{E:Value→Shared→Prop}{s:Shared}{scope:Scope}{globals:Addr}{cl:List (Str×Addr)}{qual:Str}{outer:Env}{Q:Env→Shared→Prop}
  (hQ:Q (newEnv scope s.heap.objs.size globals (cellsFrom (s.heap.objs.size+1) scope.names cl) qual none .none (some outer) builtinsNs) { s with heap:=pushCells (s.heap.push { cls:=.type "dict",data:=.dict #[] }) scope.names }) :
  wpAny M A (newFunctionEnv scope globals cl [] qual none .none (some outer)) Q E s:=by
 simp only[newFunctionEnv,Option.isSome_some,if_true]
 refine wpAny_bind (wpAny_alloc ?_)
 refine wpAny_bind (wpAny_layCells _ (λname kind cells=>by cases hkc:kind==NameKind.cell<;>simp[hkc]) _ _ _ _ ?_)
 rw[show ({ s with heap:=s.heap.push { cls:=.type "dict",data:=.dict #[] } }:Shared).heap.objs.size=s.heap.objs.size+1 from Heap.size_push ..]
 simp only[List.forIn_nil]
 exact wpAny_bind (wpAny_pure (wpAny_pure hQ))
theorem kQ{env:Env}:∀(names:List (Str×NameKind)) (acc:List (Str×Addr)),(∀y∈names,y.2 = .free→∃c,env.cells.lookup y.1=some c) →
  ∃cl:List (Str×Addr),(forIn names acc λx r=>(if (x.2==NameKind.free)=true then do let c ← cellOf env x.1;pure (ForInStep.yield ((x.1,c)::r)) else pure (ForInStep.yield r):Sem (ForInStep (List (Str×Addr)))))=pure cl ∧
   (∀x c,cl.lookup x=some c→acc.lookup x=some c∨env.cells.lookup x=some c)∧(∀x,(x,NameKind.free)∈names∨(acc.lookup x).isSome=true→(cl.lookup x).isSome=true)
 | [],acc,_=>⟨acc,rfl,λx c h => .inl h,λx h=>by
   rcases h with h|h
   ·simp at h
   ·exact h⟩
 | (n,k)::r,acc,h=>by
  by_cases hk:k = .free
  ·subst hk
   obtain⟨c,hc⟩:=h (n,.free) List.mem_cons_self rfl
   obtain⟨cl,e,h1,h2⟩:=kQ r ((n,c)::acc) λy hy=>h y (List.mem_cons_of_mem _ hy)
   refine⟨cl,?_,λx d hx=>?_,λx hx=>h2 x ?_⟩
   ·rw[List.forIn_cons]
    have e1:(NameKind.free==NameKind.free)=true:=by decide
    simp only[e1,if_true]
    have e2:cellOf env n=pure c:=by simp only[cellOf,hc]
    rw[e2]
    exact e
   ·rcases h1 x d hx with g|g
    ·rw[List.lookup_cons] at g
     cases q:x==n with
     | true =>
      rw[q] at g
      cases g
      have:x=n:=by simpa using q
      subst this
      exact .inr hc
     | false=>rw[q] at g;exact .inl g
    ·exact .inr g
   ·rcases hx with hx|hx
    ·rcases List.mem_cons.mp hx with g|g
     ·cases g
      right
      simp[List.lookup_cons]
     ·exact .inl g
    ·right
     rw[List.lookup_cons]
     cases q:x==n with
     | true=>rfl
     | false=>exact hx
  ·obtain⟨cl,e,h1,h2⟩:=kQ r acc λy hy=>h y (List.mem_cons_of_mem _ hy)
   refine⟨cl,?_,h1,λx hx=>h2 x ?_⟩
   ·rw[List.forIn_cons]
    have e1:(k==NameKind.free)=false:=by simpa using hk
    simp only[e1,Bool.false_eq_true,if_false]
    exact e
   ·rcases hx with hx|hx
    ·rcases List.mem_cons.mp hx with g|g
     ·cases g
      exact absurd rfl hk
     ·exact .inl g
    ·exact .inr hx
theorem tS{scope:Scope}{env:Env}(h:∀y∈scope.names,y.2 = .free→∃c,env.cells.lookup y.1=some c) :
  ∃cl,closureFor scope env=pure cl∧(∀x c,cl.lookup x=some c→env.cells.lookup x=some c)∧(∀x,(x,NameKind.free)∈scope.names→(cl.lookup x).isSome=true):=by
 obtain⟨cl,e,h1,h2⟩:=kQ (env:=env) scope.names [] h
 refine⟨cl,?_,λx c hx=>(h1 x c hx).elim (λg=>by simp at g) id,λx hx=>h2 x (.inl hx)⟩
 simp only[closureFor]
 rw[e]
 rfl
section
variable{X:Cx}{elt iter tg:Expr}{ifs:List Expr}{scope:Scope}{pos:Pos}{N':List Str}{g:TG}{tc:TT}{te:TE}{mp:List (Option Nat)}
def Ca(J:It)(mp:List (Option Nat))(g:TG)(tc:TT)(te:TE)(σ:St)(H:Hp)(Q:VK):Prop:=∀p,H p=none→∃W:Nat→Nat→St→Hp→Prop,(∃m,W 0 m (vg mp σ) (upd H p (.lst [])))∧∀i m σ H,W i m σ H →
 (J.stop i H∧Q (.ref p) H)∨(J.go i H∧∃N:St→Hp→Prop,(∀σ' H',N σ' H'→∃m',m'<m∧W (i+1) m' σ' H')∧∀x H',J.yld i H x H'→g x σ H' λσ2 H2=>tc σ2 H2 λb H3 =>
  if b=true then te σ2 H3 λy H4=>BS (.ref p) [y] H4 λ_ H5=>N σ2 H5 else N σ2 H3)
theorem FR{mp:List (Option Nat)}{σ:St}{i:Nat}{v:V}(h:(vg mp σ)[i]?=some (some v)):∃j,mp[i]?=some (some j)∧σ[j]?=some (some v):=by
 unfold vg at h
 rw[List.getElem?_map] at h
 cases q:mp[i]? with
 | none=>rw[q] at h;cases h
 | some o =>
  cases o with
  | none=>rw[q] at h;cases h
  | some j =>
   rw[q] at h
   refine⟨j,rfl,?_⟩
   have h:(σ[j]?).bind id=some v:=by simpa using h
   cases z:σ[j]? with
   | none=>rw[z] at h;cases h
   | some y=>rw[z] at h;have h:y=some v:=h;rw[h]
theorem FT{pins:List (Addr×Obj)}{σ:St}{H:Hp}{s₀:Shared}{C:Addr}{h₁:Heap}{t':Nat}{cl:List (Str×Addr)}{fp:List Addr}(hS:gB X N' scope mp)(I:Inv X pins σ H s₀)
  (hcl:∀x c,cl.lookup x=some c→X.env.cells.lookup x=some c∨(scope.names.lookup x=some .cell∧c=C+1∧h₁.IsCell c none∧∀z,scope.names.lookup z=some .cell→z=x)) (hcs:∀x,(x,NameKind.free)∈scope.names→(cl.lookup x).isSome=true∧∀c,cl.lookup x=some c→X.env.cells.lookup x=some c)
  (hcn:∀x,scope.names.lookup x=some .cell→cl.lookup x=some (C+1))
  (hC:C=s₀.heap.objs.size) (keep:∀b o,s₀.heap.get? b=some o→h₁.get? b=some o) (ns:∃m,h₁.Ns C m) (hf:∀b∈fp,lO X pins H b) (hfp:∀b∈fp,b<s₀.heap.objs.size) :
  Inv (cN X N' scope cl C s₀ H fp) [] (vg mp σ) H { s₀ with heap:=h₁,toks:=t' }:=by
 obtain⟨m0,ns⟩:=ns
 have cellK:∀c v,s₀.heap.IsCell c v→h₁.IsCell c v:=λc v ⟨o,ho,hd⟩=>⟨o,keep c o ho,hd⟩
 refine⟨⟨I.ok.mod,hS.kind,I.ok.glob,I.ok.blt,Nat.le_of_eq hC.symm,λx y c h1 h2=>?_,λx hx=>?_,λx c h hx=>?_,I.ok.hd,I.ok.frames,.inl rfl,λb hb=>⟨?_,λx c h=>?_⟩,I.bs,Nat.le_trans I.ok.bsz I.sz,
   λb o e hb=>?_,λb hb hs=>?_,I.stack,I.su⟩,rfl,I.bare,Un.kept keep,⟨m0,ns,λi x v e1 e2 e3=>?_⟩,λx c h=>?_,?_,λx c h=>?_,λp hp=>absurd hp (by intro z;cases z),I.hok.kept keep,?_⟩
 ·have old:∀z,X.env.cells.lookup z=some c→c<s₀.heap.objs.size:=λz hz=>by
   obtain⟨v,q⟩:=I.cell z c hz
   exact q.lt
  rcases hcl x c h1 with a|⟨a,ca,_,ua⟩
  ·rcases hcl y c h2 with b|⟨b,cb,_⟩
   ·exact I.ok.inj x y c a b
   ·have:=old x a
    rw[cb,hC] at this
    exact absurd this (Nat.not_lt.mpr (Nat.le_succ _))
  ·rcases hcl y c h2 with b|⟨b,cb,_⟩
   ·have:=old y b
    rw[ca,hC] at this
    exact absurd this (Nat.not_lt.mpr (Nat.le_succ _))
   ·exact (ua y b).symm
 ·rcases hS.back x hx with q|q
  ·exact Option.isSome_iff_exists.mp (hcs x q).1
  ·exact⟨_,hcn x q⟩
 ·have q:scope.names.lookup x=some .cell:=by
   have h:(scope.names.lookup x==some NameKind.cell)=true:=h
   simpa using h
  have hx:cl.lookup x=some c:=hx
  rw[hcn x q] at hx
  cases hx
  rw[hC]
  exact Nat.le_succ _
 ·intro z
  have:=hfp b hb
  rw[z] at this
  have h2:C<s₀.heap.objs.size:=this
  rw[hC] at h2
  exact Nat.lt_irrefl _ h2
 ·rcases hcl x c h with a|⟨a,ca,_⟩
  ·exact (hf b hb).2.2.2.2.1 x c a
  ·have:=hfp b hb
   rw[ca,hC]
   exact λq=>absurd (q ▸ this) (Nat.not_lt.mpr (Nat.le_succ _))
 ·rcases (hf b hb).2.2.2.1 with z|z
  ·exact I.ok.wO b o e z
  ·exact absurd (Nat.lt_of_lt_of_le (Heap.lt_size e) (Nat.le_trans I.ok.bsz z)) (Nat.lt_irrefl _)
 ·rcases List.mem_cons.mp (I.wQ b hs) with z|z
  ·exact (hf b hb).2.1 z
  ·exact (hf b hb).2.2.1 z
 ·obtain⟨j,hj,hv⟩:=FR e2
  obtain⟨y,y1,y2,y3,y4⟩:=hS.OD i j hj
  have hy:y=x:=by
   have:(cN X N' scope cl C s₀ H fp).N[i]?=some y:=y1
   rw[e1] at this
   exact (Option.some.inj this).symm
  subst hy
  obtain⟨m,hn,hl⟩:=I.loc
  obtain⟨u,ru,lk⟩:=hl j y v y2 hv (y4.elim (λz => .inr (.inl z)) λz => .inr (.inr z))
  refine⟨u,ru,?_⟩
  rcases lk with ⟨hk,_⟩|⟨hk,c,hc,BH⟩
  ·exfalso
   have hk:X.env.scope.names.lookup y=some .local:=hk
   rcases y4 with z|z
   ·rw[hk] at z;cases z
   ·rw[hk] at z;cases z
  ·obtain⟨c',hc'⟩:=Option.isSome_iff_exists.mp (hcs y y3).1
   have:c'=c:=by
    have q:=(hcs y y3).2 c' hc'
    rw[hc] at q
    exact (Option.some.inj q).symm
   subst this
   exact .inr ⟨hS.seen y y3,c',hc',cellK _ _ BH⟩
 ·rcases hcl x c h with a|⟨_,_,a,_⟩
  ·obtain⟨v,hv⟩:=I.cell x c a
   exact⟨v,cellK _ _ hv⟩
  ·exact⟨none,a⟩
 ·show H C=none
  rw[hC]
  exact I.hok.fresh (Nat.le_refl _)
 ·rcases hcl x c h with a|⟨_,a,_⟩
  ·exact I.hU x c a
  ·rw[a,hC];exact I.hok.fresh (Nat.le_succ _)
 ·show (vg mp σ).length=N'.length
  unfold vg
  rw[List.length_map,hS.len]
theorem we{pins:List (Addr×Obj)}{s₂:Shared}{σ:St}{H₂:Hp}{it:Addr}{fp:List Addr}{tn:Nat→Heap→Prop}{J:It}{cl:List (Str×Addr)}{Q:VK}{RR:Value→Addr→Result→Shared→Prop}{E:Value→Shared→Prop}
  (hS:gB X N' scope mp) (ko:X.calm=true) (hg:∀cl C s₀ H₀ ex,PG (cN X N' scope cl C s₀ H₀ ex) tg g) (hc:∀cl C s₀ H₀ ex,nV (cN X N' scope cl C s₀ H₀ ex) ifs tc) (he:∀cl C s₀ H₀ ex,PE (cN X N' scope cl C s₀ H₀ ex) elt te)
  (hcl:∀x c,cl.lookup x=some c→X.env.cells.lookup x=some c) (hcs:∀x,(x,NameKind.free)∈scope.names→(cl.lookup x).isSome=true)
  (I:Inv X pins σ H₂ s₂) (T:Turn X.prog X.w X.K tg J fp it tn) (st:tn 0 s₂.heap) (hf:∀b∈fp,lO X pins H₂ b) (hq:Ca J mp g tc te σ H₂ Q)
  (fin:∀p C s' H',Inv X pins σ H' s'→lO X pins H' C→(∃m,s'.heap.Ns C m)→Q (.ref p) H'→RR (.ref p) C (.ok .next) s') :
  wpAny (model X.prog X.w) X.A (newList []) (λacc s₃=>wpAny (model X.prog X.w) X.A (newFunctionEnv scope X.env.globals cl [] X.env.qual none .none (some X.env)) (λOE s₄ =>
   codeAny (model X.prog X.w) X.A (.compStart (.ListComp elt [⟨tg,iter,ifs,0⟩] scope pos) 0 (.ref it) acc { OE with scope:=relabel scope X.env }) (RR acc OE.locals) s₄) E s₃) E s₂:=by
 refine wpAny_newObj_type (ze ?_)
 dsimp only
 have I₃:Inv X pins σ (upd H₂ s₂.heap.objs.size (.lst [])) { s₂ with heap:=s₂.heap.push { cls:=.type "list",dict:=none,data:=.seq ([]:List Value).toArray } } :=
  I.LM (t':=s₂.toks) (ys:=[]) .nil (Nat.zero_le _)
 generalize hH2:s₂.heap.push { cls:=.type "list",dict:=none,data:=.seq ([]:List Value).toArray }=H2 at I₃ ⊢
 obtain⟨h₁,hh1⟩:∃h₁,h₁=pushCells (H2.push { cls:=.type "dict",data:=.dict #[] }) scope.names:=⟨_,rfl⟩
 rw[← hh1]
 have hns₁:h₁.Ns H2.objs.size (λ_=>none):=by rw[hh1];exact (Heap.Ns.new H2 (.type "dict")).keeps (pushCells_keeps _ _)
 obtain⟨cl',Dx⟩:∃cl',cl'=cellsFrom (H2.objs.size+1) scope.names cl:=⟨_,rfl⟩
 rw[← Dx]
 have L_:=zd scope.names (H2.objs.size+1) (H2.push { cls:=.type "dict",data:=.dict #[] }) cl hS.cells hS.nd
 have fc:∀x,(x,NameKind.free)∈scope.names→scope.names.lookup x≠some .cell:=λx hx q=>by
  have nd:=hS.nd
  have m2:=PySem.mem_of_lookup q
  have key:∀l:List (Str×NameKind),(l.map (·.1)).Nodup→(x,NameKind.free)∈l→(x,NameKind.cell)∈l→False:=by
   intro l
   induction l with
   | nil=>intro _ h;cases h
   | cons a l ih =>
    intro nd h1 h2
    have nd':=List.nodup_cons.mp (by simpa using nd:(a.1::l.map (·.1)).Nodup)
    rcases List.mem_cons.mp h1 with e1|h1
    ·rcases List.mem_cons.mp h2 with e2|h2
     ·rw[← e1] at e2;cases e2
     ·exact nd'.1 (List.mem_map.mpr ⟨_,h2,by rw[← e1]⟩)
    ·rcases List.mem_cons.mp h2 with e2|h2
     ·exact nd'.1 (List.mem_map.mpr ⟨_,h1,by rw[← e2]⟩)
     ·exact ih nd'.2 h1 h2
  exact key _ nd hx m2
 have OF:∀x c,cl'.lookup x=some c→X.env.cells.lookup x=some c∨(scope.names.lookup x=some .cell∧c=H2.objs.size+1∧h₁.IsCell c none∧∀z,scope.names.lookup z=some .cell→z=x):=λx c h=>by
  cases L_ with
  | no _ e1 _=>rw[Dx.trans e1] at h;exact .inl (hcl x c h)
  | one y h0 hy e1 e2 =>
   rw[Dx.trans e1,List.lookup_cons] at h
   cases hb:x==y with
   | true =>
    rw[hb] at h
    have hxy:x=y:=eq_of_beq hb
    have h:some (H2.objs.size+1)=some c:=h
    cases h
    subst hxy
    refine .inr ⟨hy,rfl,?_,λz hz=>h0 z hz⟩
    rw[hh1.trans e2,← Heap.size_push H2 { cls:=.type "dict",data:=.dict #[] }]
    exact⟨_,Heap.get?_push_size _ rfl,rfl⟩
   | false=>rw[hb] at h;exact .inl (hcl x c h)
 have QY:∀x,(x,NameKind.free)∈scope.names→(cl'.lookup x).isSome=true∧∀c,cl'.lookup x=some c→X.env.cells.lookup x=some c:=λx hx=>by
  have el:cl'.lookup x=cl.lookup x:=by
   cases L_ with
   | no _ e1 _=>rw[Dx.trans e1]
   | one y h0 hy e1 e2 =>
    rw[Dx.trans e1,List.lookup_cons]
    cases hb:x==y with
    | true=>exact absurd ((eq_of_beq hb) ▸ hy) (fc x hx)
    | false=>rfl
  rw[el]
  exact⟨hcs x hx,λc hc=>hcl x c hc⟩
 have QZ:∀x,scope.names.lookup x=some .cell→cl'.lookup x=some (H2.objs.size+1):=λx hx=>by
  cases L_ with
  | no h0 _ _=>exact absurd hx (h0 x)
  | one y h0 hy e1 e2 =>
   rw[Dx.trans e1,h0 x hx,List.lookup_cons]
   simp
 have fresh:H₂ s₂.heap.objs.size=none:=I.hok.fresh (Nat.le_refl _)
 have fpl:∀b∈fp,b<s₂.heap.objs.size:=λb hb=>by
  obtain⟨o,ho,_⟩:=T.obj _ _ st b hb
  exact Heap.lt_size ho
 have Ma:s₂.heap.objs.size≤H2.objs.size:=by rw[← hH2,Heap.size_push];exact Nat.le_succ _
 have Q0:∀b o,s₂.heap.get? b=some o→H2.get? b=some o:=λb o e=>by rw[← hH2];exact Heap.get?_push_of_some _ e
 have old:∀b o,H2.get? b=some o→h₁.get? b=some o:=λb o e=>by rw[hh1];exact pushCells_keeps _ _ _ _ (Heap.get?_push_of_some _ e)
 have hf3:∀b∈fp,lO X pins (upd H₂ s₂.heap.objs.size (.lst [])) b:=λb hb=>⟨by rw[aQ (Nat.ne_of_lt (fpl b hb))];exact (hf b hb).1,(hf b hb).2⟩
 have I₄:=FT (t':=s₂.toks) (N':=N') (C:=H2.objs.size) (h₁:=h₁) hS I₃ OF QY QZ rfl old ⟨_,hns₁⟩ hf3 λb hb=>Nat.lt_of_lt_of_le (fpl b hb) Ma
 have st4:tn 0 h₁:=T.keep _ _ _ st λb hb o e=>old b o (Q0 b o e)
 obtain⟨W,⟨m0,w0⟩,turn⟩:=hq s₂.heap.objs.size fresh
 generalize hX':cN X N' scope cl' H2.objs.size { s₂ with heap:=H2 } (upd H₂ s₂.heap.objs.size (.lst [])) fp=X' at I₄
 have hg':PG X' tg g:=hX' ▸ hg _ _ _ _ _
 have hc':nV X' ifs tc:=hX' ▸ hc _ _ _ _ _
 have he':PE X' elt te:=hX' ▸ he _ _ _ _ _
 have e1:X'.prog=X.prog:=by rw[← hX'];rfl
 have e2:X'.w=X.w:=by rw[← hX'];rfl
 have e3:X'.K=X.K:=by rw[← hX'];rfl
 have e4:X'.calm=true:=by rw[← hX'];exact ko
 have e5:X'.A=X.A:=by rw[← hX'];rfl
 have e6:X'.env=compEnvC scope cl' H2.objs.size X.env:=by rw[← hX'];rfl
 have e7:X'.xe=λ_ _=>False:=by rw[← hX'];rfl
 have Ap:∀{H':Hp},(∀b∈fp,H' b=none)→∀b∈fp,lO X' [] H' b:=λ{H'} hn b hb=>by
  refine⟨hn b hb,?_,?_,?_,λx c h=>?_,λp hp=>?_⟩
  ·rw[e6];exact Nat.ne_of_lt (Nat.lt_of_lt_of_le (fpl b hb) Ma)
  ·rw[← hX']
   intro hs
   rcases List.mem_cons.mp (I.wQ b hs) with z|z
   ·exact (hf b hb).2.1 z
   ·exact (hf b hb).2.2.1 z
  ·rw[← hX'];exact .inl hb
  ·rw[e6] at h
   rcases OF x c h with a|⟨_,a,_⟩
   ·exact (hf b hb).2.2.2.2.1 x c a
   ·rw[a]
    have q1:=Nat.lt_of_lt_of_le (fpl b hb) Ma
    exact λq=>absurd (q ▸ q1) (Nat.not_lt.mpr (Nat.le_succ _))
  ·rw[← hX'] at hp;cases hp
 have loop:∀s₃:Shared,Inv X' [] (vg mp σ) (upd H₂ s₂.heap.objs.size (.lst [])) s₃→tn 0 s₃.heap →
   codeAny (model X.prog X.w) X.A (.compLoop (.ListComp elt [⟨tg,iter,ifs,0⟩] scope pos) 0 (.ref it) (.ref s₂.heap.objs.size) (compEnvC scope cl' H2.objs.size X.env)) (RR (.ref s₂.heap.objs.size) H2.objs.size) s₃:=by
  intro s₃ I₃' st3
  refine xl (λn s'=>∃i σ' H',Inv X' [] σ' H' s'∧tn i s'.heap∧(∀b∈fp,H' b=none)∧W i n σ' H') ?_ m0 ⟨0,_,_,I₃',st3,λb hb=>(hf3 b hb).1,w0⟩
  rintro n s4 ⟨i,σ4,H4,I4,st4,fr4,w4⟩
  rcases turn i n σ4 H4 w4 with ⟨stop,qn⟩|⟨go,N,hN,step⟩
  ·have q:=T.done X' e1 e2 e3 e4 i [] s4 σ4 H4 (λ_ _=>False) I4 (Ap fr4) st4 stop
   rw[e5] at q
   refine thn q λr s5 ax=>?_
   obtain⟨hr,I5⟩:=ax
   subst hr
   have I6:Inv X pins σ H4 s5:=by
    subst hX'
    exact I₃.Kg (ch:=fp) I5.os I5.base I5.hok I5.bare λb hb=>⟨(hf3 b hb).2.2.2.1,(hf3 b hb).2.1,(hf3 b hb).2.2.2.2.1,(hf3 b hb).2.2.2.2.2⟩
   have hC:H4 H2.objs.size=none:=by
    have:=I5.free
    rw[e6] at this
    exact this
   have hns:∃m,s5.heap.Ns H2.objs.size m:=by
    obtain⟨m,hm,_⟩:=I5.loc
    rw[e6] at hm
    exact⟨m,hm⟩
   exact fin _ _ s5 H4 I6 (I₃.yG (Nat.le_refl _) hC) hns qn
  ·have q:=T.item X' e1 e2 e3 e4 i [] s4 σ4 H4 (λ_ _=>False) I4 (Ap fr4) st4 go
   rw[e5] at q
   refine thn q λr s5 eA=>?_
   obtain⟨u,hr,h5⟩:=eA
   subst hr
   refine thn h5 λ_ s6 yF=>?_
   obtain⟨x,H6,I6,r6,y6,st6,fr6⟩:=yF
   have I6':=I6.pinned (Ap fr6) (T.obj _ _ st6)
   have g6:=hg' _ s6 σ4 H6 x u _ I6' r6 (step x H6 y6)
   rw[e1,e2,e5,e6,e7] at g6
   refine thn g6 λ_ s7 OG=>?_
   obtain⟨σ7,H7,I7,q7⟩:=OG
   have c7:=hc' _ s7 σ7 H7 _ I7 q7
   rw[e1,e2,e5,e6,e7] at c7
   refine thn c7 λok s8 OH=>?_
   obtain⟨H8,I8,q8⟩:=OH
   have again:∀{s9:Shared}{σ9:St}{H9:Hp},Inv X' ([]++sS fp s6.heap) σ9 H9 s9→N σ9 H9→∃m,m<n∧∃i σ' H',Inv X' [] σ' H' s9∧tn i s9.heap∧(∀b∈fp,H' b=none)∧W i m σ' H':=λ{s9 σ9 H9} I9 n9=>by
    obtain⟨m',hm,w9⟩:=hN σ9 H9 n9
    refine⟨m',hm,i+1,σ9,H9,I9.pq,T.keep _ _ _ st6 λb hb o e=>(I9.pin (b,o) (List.mem_append_right _ (List.mem_append_right _ (kI hb e)))).1,λb hb=>?_,w9⟩
    obtain⟨o,e,d⟩:=T.obj _ _ st6 b hb
    exact (I9.pin (b,o) (List.mem_append_right _ (List.mem_append_right _ (kI hb e)))).2.1
   cases ok with
   | false =>
    rw[if_neg Bool.false_ne_true] at q8 ⊢
    exact again I8 q8
   | true =>
    rw[if_pos rfl] at q8 ⊢
    have l8:=he' _ s8 σ7 H8 _ I8 q8
    rw[e1,e2,e5,e6,e7] at l8
    refine thn l8 λy s9 OI=>?_
    obtain⟨z,H9,I9,r9,q9⟩:=OI
    have a9:=(vX (X:=X')) _ s9 σ7 H9 (.ref s₂.heap.objs.size) [z] (.ref s₂.heap.objs.size) [y] _ I9 rfl (.cons r9 .nil) q9
    rw[e1,e2,e5,e7] at a9
    refine thn a9 λ_ s10 ⟨_,H10,I10,_,q10⟩=>again I10 q10
 refine codeAny_compStart_list (loop _ I₄ st4) ?_
 exact T.self X.A 0 _ _ _ st4 (loop _ I₄ st4)
theorem Jc{wi:TI}(hx:X.xe=λ_ _=>False)(hS:gB X N' scope mp)(ko:X.calm=true)(hi:PI X tg iter wi)(hg:∀cl C s₀ H₀ ex,PG (cN X N' scope cl C s₀ H₀ ex) tg g)(hc:∀cl C s₀ H₀ ex,nV (cN X N' scope cl C s₀ H₀ ex) ifs tc)
  (he:∀cl C s₀ H₀ ex,PE (cN X N' scope cl C s₀ H₀ ex) elt te) (hs:∀x,foldedSetIterable iter X.env x=pure x:=by intro _;rfl) :
  PE X (.ListComp elt [⟨tg,iter,ifs,0⟩] scope pos) (λσ H Q=>wi σ H λJ H1=>Ca J mp g tc te σ H1 Q):=by
 intro pins s σ H Q I h
 have hfr:∀y∈scope.names,y.2 = .free→∃c,X.env.cells.lookup y.1=some c:=λy hy hk=>I.ok.has y.1 (hS.free y hy hk)
 obtain⟨cl,hcl,h1,h2⟩:=tS hfr
 rw[eval_ListComp]
 refine wpAny_comprehension_free (use:=none) rfl hs hcl hS.kind hS.loc (thn (hi pins s σ H _ I h) λv s1 q1=>thn q1 λitv s2 ax=>?_)
 obtain⟨it,fp,tn,J,H2,e,I2,T,st2,f2,q2⟩:=ax
 subst e
 refine we (RR:=λacc C=>compPost (model X.prog X.w) X.A X.xe none (EP X pins σ Q) acc C) hS ko hg hc he h1 h2 I2 T st2 f2 q2 λp C s' H' I' fp' ns q'=>?_
 obtain⟨m,hm⟩:=ns
 refine⟨m,hm,λh' sb=>⟨.ref p,H',?_,rfl,q'⟩⟩
 exact I'.turned (t':=s'.toks) (λb o hb e=>(sb.2 b hb).trans e) fp'.1 fp'.2.1 fp'.2.2.2.1 fp'.2.2.2.2.1 fp'.2.2.2.2.2
theorem zf{wi:TI}{i:Nat}{y:Str}{py FU:Pos}(hx:X.xe=λ_ _=>False)(hS:gB X N' scope mp)(ko:X.calm=true)(hi:PI X tg iter wi)(hg:∀cl C s₀ H₀ ex,PG (cN X N' scope cl C s₀ H₀ ex) tg g)
  (hc:∀cl C s₀ H₀ ex,nV (cN X N' scope cl C s₀ H₀ ex) ifs tc) (he:∀cl C s₀ H₀ ex,PE (cN X N' scope cl C s₀ H₀ ex) elt te) (hN:X.N.Nodup) (hiN:X.N[i]?=some y) (hl:Loc X.env.scope y)
  (hsw:swapsWith (.ListComp elt [⟨tg,iter,ifs,0⟩] scope pos) (some (.Name y py)) FU.line X.env=pure true) (hs:∀x,foldedSetIterable iter X.env x=pure x:=by intro _;rfl)
  (hf:X.fn y=true∨X.env.scope.names.lookup y=some .local:=by first|exact .inl rfl|exact .inr rfl|assumption) :
  PS X (.Assign [.Name y py] (.ListComp elt [⟨tg,iter,ifs,0⟩] scope pos) FU) (Lf (λσ H Q=>wi σ H λJ H1=>Ca J mp g tc te σ H1 Q) (EU i)):=by
 intro pins s σ H D I h
 have hfr:∀y∈scope.names,y.2 = .free→∃c,X.env.cells.lookup y.1=some c:=λy hy hk=>I.ok.has y.1 (hS.free y hy hk)
 obtain⟨cl,hcl,h1,h2⟩:=tS hfr
 rw[exec_Assign_Name_used _ _ _ _ hsw]
 refine wpAny_bind (wpAny_standAt (wpAny_bind ?_))
 show wpAny _ X.A (do let _ ← comprehension (.ListComp elt [⟨tg,iter,ifs,0⟩] scope pos) scope X.env _ (newList []) false (eval iter X.env) (some (assign (.Name y py) X.env))) _ _ s
 refine wpAny_bind (wpAny_mono (wpAny_comprehension_free (use:=some (assign (.Name y py) X.env)) (Q:=λ_ s'=>SP X pins D .next s') rfl hs hcl hS.kind hS.loc
  (thn (hi pins s σ H _ I h) λv s1 q1=>thn q1 λitv s2 ⟨it,fp,tn,J,H2,e,I2,T,st2,f2,q2⟩=>?_)) (λ_ s' hq=>wpAny_pure (wpAny_pure hq)) λ_ _ e=>e)
 subst e
 refine we (RR:=λacc C=>compPost (model X.prog X.w) X.A X.xe (some (assign (.Name y py) X.env)) (λ_ s'=>SP X pins D .next s') acc C) hS ko hg hc he h1 h2 I2 T st2 f2 q2 λp C s' H' I' fp' ns q'=>?_
 obtain⟨m,hm⟩:=ns
 obtain⟨oC,es,ep,hoC,rC⟩:=id hm
 show wpAny _ X.A (assign (.Name y py) X.env (.ref p)) _ _ _
 refine wpAny_assign_Name (vQ I' hN hiN hl (v:=.ref p) rfl (λs'' I'' sb=>?_) hf)
 obtain⟨a,sb,ha⟩:=sb
 have hCa:C≠a:=by
  rcases ha with rfl|ha
  ·exact fp'.2.1
  ·exact λz=>fp'.2.2.2.2.1 y a ha z.symm
 refine⟨m,⟨oC,es,ep,(sb.2 C hCa).trans hoC,rC⟩,λh3 sb3=>⟨_,H',?_,q'⟩⟩
 exact I''.turned (t':=s''.toks) (λb o hb e=>(sb3.2 b hb).trans e) fp'.1 fp'.2.1 fp'.2.2.2.1 fp'.2.2.2.2.1 fp'.2.2.2.2.2
end
end L2
namespace Fw
open PySem PySem.Spec PyProof.Rows L2
section
variable{K:PySem.W.Frag}{F F' F1 F2 H H' H1 H2:Hp}{α α' α1 α2:List Addr}{μ μ':ag}{e:Slots}{σ:L2.St}
theorem tT{mp:List (Option Nat)}{i:Nat}{x:SV}(h:slot (ini mp e) i=some x):∃j,mp[i]?=some (some j)∧slot e j=some x:=by
 unfold slot ini at h
 rw[List.getElem?_map] at h
 cases q:mp[i]? with
 | none=>rw[q] at h;cases h
 | some o =>
  cases o with
  | none=>rw[q] at h;cases h
  | some j =>
   rw[q] at h
   refine⟨j,rfl,?_⟩
   simp only[Option.map_some,Option.bind_some] at h
   cases z:slot e j with
   | none=>rw[z] at h;cases h
   | some y=>rw[z] at h;cases h;rfl
theorem Sim.ini(S:Sim K F α e μ σ H)(mp:List (Option Nat)):Sim K F α (Fw.ini mp e) μ (vg mp σ) H:=by
 refine⟨S.st,λi x h=>?_,by unfold Fw.ini vg;rw[List.length_map,List.length_map]⟩
 obtain⟨j,hj,hx⟩:=tT h
 obtain⟨v,hv,ok⟩:=S.sl j x hx
 refine⟨v,?_,ok⟩
 unfold vg
 rw[List.getElem?_map,hj]
 simp[hv]
theorem dH.Mb{p:Addr}{o:HO}(S:dH K F α μ H)(h1:F p=none)(h2:p∉α):dH K F α μ (upd H p o):=by
 have na:∀{k:Nat}{a:Addr},α[k]?=some a→a≠p:=λ{k a} h q=>h2 (by rw[← q];exact List.mem_of_getElem? h)
 refine⟨λa z hz=>?_,S.len,S.nd,λk a g=>?_,λk b u a g1 g2=>?_⟩
 ·rw[aQ (λq=>by subst q;rw[h1] at hz;cases hz)];exact S.ext a z hz
 ·rw[aQ (na g)];exact S.there k a g
 ·obtain⟨c1,c2⟩:=S.cell k b u a g1 g2
  refine⟨λhb=>⟨(c1 hb).1,?_⟩,c2⟩
  have d2:=(c1 hb).2
  cases u with
  | lst ts=>obtain⟨vs,w1,w2⟩:=d2;exact⟨vs,by rw[aQ (na g2)];exact w1,w2⟩
  | dct ts=>obtain⟨vs,w1,w2⟩:=d2;exact⟨vs,by rw[aQ (na g2)];exact w1,w2⟩
  | _=>exact d2.elim
theorem Ex.Mb{p:Addr}{o:HO}(x:Ex F α H F' α' H')(h:H p=none):Ex F α H F' α' (upd H' p o):=⟨x.same,x.pre,λb z h1 h2 h3=>by
 obtain⟨g1,g2,g3⟩:=x.fr b z h1 h2 h3
 exact⟨by rw[aQ (λq=>by subst q;rw[h] at h1;cases h1)];exact g1,g2,g3⟩⟩
theorem Sim.back{e':Slots}(S:Sim K F α e' μ σ H)(hl:e.length=e'.length)(h:∀j x,slot e j=some x→slot e' j=some x):Sim K F α e μ σ H :=
 ⟨S.st,λi x g=>S.sl i x (h i x g),by rw[hl];exact S.len⟩
end
section
variable{X:Cx}{elt iter tg:Expr}{ifs:List Expr}{scope:Scope}{pos:Pos}{N':List Str}{mp:List (Option Nat)}{di:DI}{b:BD}{dc d:D}
def tU(mp:List (Option Nat))(b:BD):Prop:=∀t e e1,b t (ini mp e)=some e1→(ini mp e).length=e1.length∧∀j x,slot (ini mp e) j=some x→slot e1 j=some x
theorem slot_set_ne{e:Slots}{i j:Nat}{x:SV}(h:i≠j):slot (e.set i (some x)) j=slot e j:=by
 unfold slot
 rw[List.getElem?_set_ne h]
theorem bA{i:Nat}(h:mp[i]?=some none):tU mp (aN i):=λt e e1 hb=>by
 cases hb
 refine⟨by rw[List.length_set],λj x hx=>?_⟩
 obtain⟨k,hk,_⟩:=tT hx
 rw[slot_set_ne (λq=>by subst q;rw[h] at hk;cases hk)];exact hx
theorem cZ{i i':Nat}(h:mp[i]?=some none)(h':mp[i']?=some none):tU mp (b4 [i,i']):=λt e e1 hb=>by
 cases t with
 | tup ts =>
  unfold b4 at hb
  simp only at hb
  by_cases hl:ts.length=[i,i'].length
  ·rw[if_pos hl] at hb
   match ts,hl with
   | [t1,t2],_ =>
    cases hb
    refine⟨by simp,λj x hx=>?_⟩
    obtain⟨k,hk,_⟩:=tT hx
    have n1:i≠j:=λq=>by subst q;rw[h] at hk;cases hk
    have n2:i'≠j:=λq=>by subst q;rw[h'] at hk;cases hk
    simp only[List.zip_cons_cons,List.zip_nil_right,List.foldl_cons,List.foldl_nil]
    rw[slot_set_ne n2,slot_set_ne n1];exact hx
  ·rw[if_neg hl] at hb;cases hb
 | _=>cases hb
theorem bp{X':Cx}:nV X' [] (tDT X' (dC (.bl true))):=λpins s σ H Q I ax=>by
 obtain⟨F,α,e,μ,S,h⟩:=ax
 obtain⟨b,hb,h⟩:=h
 cases hb
 exact FP pins s σ H Q I (h H F α Ex.refl S)
theorem nz{X':Cx}{c:Expr}(h:CT X' c dc):nV X' [c] (tDT X' dc):=FQ h
def oD(K:PySem.W.Frag)(d:D):TE:=λσ H Q=>∃F α e μ x μ',Sim K F α e μ σ H∧d e μ = .ok x μ'∧Dv K F α H e σ Q x μ'
def oDT(K:PySem.W.Frag)(d:D):TT:=λσ H Q=>∃F α e μ b μ',Sim K F α e μ σ H∧d e μ = .ok (.val (.bl b)) μ' ∧
 ∀H' F' α',Ex F α H F' α' H'→Sim K F' α' e μ' σ H'→Q b H'
theorem Kq{X':Cx}{σ:L2.St}{H:Hp}{Q:VK}(h:oD X'.K d σ H Q):tD X' d σ H Q:=by
 obtain⟨F,α,e,μ,x,μ',S,h,p⟩:=h
 exact⟨F,α,e,μ,S,by rw[h];exact p⟩
theorem FV{X':Cx}{σ:L2.St}{H:Hp}{Q:Bool→Hp→Prop}(h:oDT X'.K d σ H Q):tDT X' d σ H Q:=by
 obtain⟨F,α,e,μ,b,μ',S,h,p⟩:=h
 exact⟨F,α,e,μ,S,by rw[h];exact⟨b,rfl,p⟩⟩
inductive CIv(K:PySem.W.Frag)(same:ag→Prop)(items:List T)(b:BD)(dc d:D)(e0:Slots)(us:List T)(μ':ag)(F1:Hp)(α1:List Addr)(H1:Hp)(p:Addr)(i:Nat)(σ':L2.St)(Hc:Hp):Prop
 | mk (F2:Hp) (α2:List Addr) (μ3:ag) (done rest:List T) (vs:List V) (x2:Ex F1 α1 H1 F2 α2 Hc) (S2:Sim K F2 α2 e0 μ3 σ' Hc) (n1:F2 p=none) (n2:p∉α2) (hv:Hc p=some (.lst vs)) (hr:aI K F2 done vs) (hdl:done.length≤i) (hL:cy same b dc d e0 (items.drop i) μ3 = .ok rest μ') (hu:us=done++rest)
theorem wg{σ:L2.St}{H:Hp}{Q:VK}(hb:tU mp b)(h:tF X (br di mp b dc d) σ H Q):tDI X di σ H λJ H1=>Ca J mp (tBd X.K b) (oDT X.K dc) (oD X.K d) σ H1 Q:=by
 obtain⟨F,α,e,μ,S,h⟩:=h
 refine⟨F,α,e,μ,S,(R.wp_bind h).mono (λW μ1 h J H1 F1 α1 x1 S1 ok=>?_) λ_ _ h=>h⟩
 cases hL:(cy W.same b dc d (ini mp e) W.items μ1).calm with
 | err c μ'=>cases q:cy W.same b dc d (ini mp e) W.items μ1<;>rw[q] at hL<;>cases hL
 | bad=>rw[hL] at h;exact h.elim
 | ok us μ' =>
 rw[hL] at h
 have hL:=R.calm_eq hL
 rw[R.bf] at h
 by_cases hz:W.items.length≤szL
 ·rw[if_pos hz] at h
  obtain⟨t,et,post⟩:=h
  cases et
  intro p hp
  refine⟨λi m σ' Hc=>m=W.items.length-i∧i≤W.items.length∧CIv X.K W.same W.items b dc d (ini mp e) us μ' F1 α1 H1 p i σ' Hc,
   ⟨_,rfl,Nat.zero_le _,.mk F1 α1 μ1 [] us [] (Ex.lay hp) ((S1.ini mp).of (aX.refl _) (List.prefix_refl _) (S1.st.lay hp)) (S1.st.ext.free hp) (dM S1.st hp) aV aI.lP (Nat.zero_le _) hL rfl⟩,?_⟩
  rintro i m σ2 H2 ⟨rfl,hi',hC⟩
  obtain⟨F2,α2,μ3,done,rest,vs,x2,S2,n1,n2,hv,hr,hdl,hL,hu⟩:=hC
  by_cases hlt:i<W.items.length
  ·rw[List.drop_eq_getElem_cons hlt] at hL
   unfold cy at hL
   by_cases hs:W.same μ3
   ·rw[if_pos hs] at hL
    obtain⟨g1,g2⟩:=ok F2 α2 μ3 H2 x2.same x2.pre S2.st hs
    obtain⟨go,yl⟩:=g1 i W.items[i] (by simp[hlt])
    cases hb':b W.items[i] (ini mp e) with
    | none=>simp only[hb'] at hL;cases hL
    | some e3 =>
     simp only[hb'] at hL
     obtain⟨y0,μ4,hy,hL⟩:=R.a_ hL
     have hy:=R.calm_eq hy
     obtain⟨k,μ5,hk,hK⟩:=R.a_ hL
     obtain⟨hk1,hk2⟩:=R.oj hk
     subst hk2
     have ek:=AO hk1
     rw[ek] at hy
     clear hL hk hk1 ek
     obtain⟨hl3,hb3⟩:=hb _ _ _ hb'
     refine .inr ⟨go,CIv X.K W.same W.items b dc d (ini mp e) us μ' F1 α1 H1 p (i+1),λσ' H' q=>⟨W.items.length-(i+1),by lia,rfl,hlt,q⟩,λx H3 yy=>?_⟩
     obtain⟨F3,gr,rp⟩:=yl x H3 yy
     have x3:Ex F2 α2 H2 F3 α2 H3:=gr.ex S2.st.ext
     refine⟨F3,α2,ini mp e,μ3,W.items[i],e3,S2.grow gr,rp,hb',λσ4 S4=>?_⟩
     refine⟨F3,α2,e3,μ3,k,μ4,S4,hy,λH5 F5 α5 x5 S5=>?_⟩
     obtain⟨v3,n3,m3⟩:=x3.fr p _ hv n1 n2
     obtain⟨v5,n5,m5⟩:=x5.fr p _ v3 n3 m3
     cases k with
     | false =>
      rw[if_neg Bool.false_ne_true] at hK ⊢
      exact .mk F5 α5 μ4 done rest vs (x2.trans (x3.trans x5)) (S5.back hl3 hb3) n5 m5 v5 (aI.mono (x3.same.trans x5.same) _ _ hr) (Nat.le_succ_of_le hdl) hK hu
     | true =>
      rw[if_pos rfl] at hK ⊢
      obtain⟨y2,μ6,hd,hK⟩:=R.a_ hK
      have hd:=R.calm_eq hd
      obtain⟨u,μ7,hfz,hK⟩:=R.a_ hK
      obtain⟨us',μ8,hL2,hK⟩:=R.a_ hK
      cases hK
      refine⟨F5,α5,e3,μ4,y2,μ6,S5,hd,λv H6 F6 α6 x6 S6 o6=>?_⟩
      obtain⟨v6,n6,m6⟩:=x6.fr p _ v5 n5 m5
      obtain⟨F7,s7,ne7,S7,r7⟩:=qt S6.st o6 hfz
      have hvl:vs.length<sizeLine:=by
       have:=hr.length
       have hz':W.items.length≤sizeLine:=hz
       lia
      have n7:F7 p=none:=by rw[ne7 p m6];exact n6
      have x7:Ex F1 α1 H1 F7 α6 H6:=x2.trans (x3.trans (x5.trans (x6.trans (Ex.tP s7 ne7))))
      refine⟨p,vs,v,rfl,rfl,v6,hvl,.mk F7 α6 μ7 (done++[u]) us' (vs++[v]) (x7.Mb hp) ?_ n7 m6 aV ?_ ?_ hL2 ?_⟩
      ·exact ((S6.back hl3 hb3).of s7 (List.prefix_refl _) S7).of (aX.refl _) (List.prefix_refl _) (S7.Mb n7 m6)
      ·exact (aI.mono (x3.same.trans (x5.same.trans (x6.same.trans s7))) _ _ hr).append (aI.one r7)
      ·rw[List.length_append,List.length_singleton];lia
      ·rw[hu,List.append_assoc];rfl
   ·rw[if_neg hs] at hL;cases hL
  ·have e1:i=W.items.length:=by lia
   subst e1
   rw[List.drop_length] at hL
   unfold cy at hL
   by_cases hs:W.same μ3
   ·rw[if_pos hs] at hL
    cases hL
    obtain⟨g1,g2⟩:=ok F2 α2 _ H2 x2.same x2.pre S2.st hs
    refine .inl ⟨g2,post p H2 F2 α2 (x1.trans x2) (S1.of x2.same x2.pre S2.st) (x1.was S1.st hp) n1 n2 ⟨vs,hv,?_⟩⟩
    rw[hu,List.append_nil];exact hr
   ·rw[if_neg hs] at hL;cases hL
 ·rw[if_neg hz] at h;exact h.elim
theorem kq{e:Slots}{μ μ':ag}{x:SV}(h:br di mp b dc d e μ = .ok x μ'):∃t,x = .val t:=by
 unfold br at h
 obtain⟨W,μ1,hW,h⟩:=R.a_ h
 obtain⟨us,μ2,hL,h⟩:=R.a_ h
 by_cases hz:W.items.length≤szL
 ·rw[if_pos hz] at h;cases h;exact⟨_,rfl⟩
 ·rw[if_neg hz] at h;cases h
theorem nV.imp{X':Cx}{cs:List Expr}{t t':TT}(h:nV X' cs t)(i:∀σ H Q,t' σ H Q→t σ H Q):nV X' cs t':=λpins s σ H Q I q=>h pins s σ H Q I (i σ H Q q)
theorem cw(hx:X.xe=λ_ _=>False)(hS:gB X N' scope mp)(ko:X.calm=true)(hb:tU mp b)(hi:CI X tg iter di)(hg:∀cl C s₀ H₀ ex,CB (cN X N' scope cl C s₀ H₀ ex) tg b)
  (hc:∀cl C s₀ H₀ ex,nV (cN X N' scope cl C s₀ H₀ ex) ifs (tDT (cN X N' scope cl C s₀ H₀ ex) dc)) (he:∀cl C s₀ H₀ ex,CE (cN X N' scope cl C s₀ H₀ ex) elt d) (hs:∀x,foldedSetIterable iter X.env x=pure x:=by intro _;rfl) :
  CF X (.ListComp elt [⟨tg,iter,ifs,0⟩] scope pos) (br di mp b dc d) :=
 ⟨PE.imp (Jc hx hS ko hi (g:=tBd X.K b) hg (λcl C s₀ H₀ ex=>nV.imp (hc cl C s₀ H₀ ex) λσ H Q q=>FV (X':=cN X N' scope cl C s₀ H₀ ex) q) (te:=oD X.K d) (λcl C s₀ H₀ ex=>PE.imp (he cl C s₀ H₀ ex) λσ H Q q=>Kq (X':=cN X N' scope cl C s₀ H₀ ex) q) hs) λσ H Q q=>wg hb q,λ_ _ _ _ h=>kq h⟩
theorem jL(i:Nat){y:Str}{py FU:Pos}(hx:X.xe=λ_ _=>False)(hS:gB X N' scope mp)(ko:X.calm=true)(hb:tU mp b)(hi:CI X tg iter di)(hg:∀cl C s₀ H₀ ex,CB (cN X N' scope cl C s₀ H₀ ex) tg b)
  (hc:∀cl C s₀ H₀ ex,nV (cN X N' scope cl C s₀ H₀ ex) ifs (tDT (cN X N' scope cl C s₀ H₀ ex) dc)) (he:∀cl C s₀ H₀ ex,CE (cN X N' scope cl C s₀ H₀ ex) elt d) (hN:X.N.Nodup) (hiN:X.N[i]?=some y:=by rfl) (hl:Loc X.env.scope y:=by first|exact Or.inl rfl|exact Or.inr rfl)
  (hsw:swapsWith (.ListComp elt [⟨tg,iter,ifs,0⟩] scope pos) (some (.Name y py)) FU.line X.env=pure true:=by rfl) (hs:∀x,foldedSetIterable iter X.env x=pure x:=by intro _;rfl)
  (hf:X.fn y=true∨X.env.scope.names.lookup y=some .local:=by first|exact .inl rfl|exact .inr rfl|assumption) :
  PS X (.Assign [.Name y py] (.ListComp elt [⟨tg,iter,ifs,0⟩] scope pos) FU) (λD σ H=>tF X (br di mp b dc d) σ H λv H1=>D.nx (σ.set i (some v)) H1) :=
 PS.imp (zf hx hS ko hi (g:=tBd X.K b) hg (λcl C s₀ H₀ ex=>nV.imp (hc cl C s₀ H₀ ex) λσ H Q q=>FV (X':=cN X N' scope cl C s₀ H₀ ex) q) (te:=oD X.K d) (λcl C s₀ H₀ ex=>PE.imp (he cl C s₀ H₀ ex) λσ H Q q=>Kq (X':=cN X N' scope cl C s₀ H₀ ex) q) hN hiN hl hsw hs hf) λD σ H q=>wg hb q
theorem kR{st:Stmt}{i:Nat}{da:D}(h:PS X st (λD σ H=>tF X da σ H λv H1=>D.nx (σ.set i (some v)) H1))(hv:∀e μ x μ',da e μ = .ok x μ'→∃t,x = .val t):CS X st (aE i da) :=
 PS.imp h λD σ H ⟨F,α,e,μ,S,h⟩=>y_ hv ⟨F,α,e,μ,S,(bc.toS h).mono (λx μ1 h v H1 F1 α1 x1 S1 o1=>h _ H1 F1 α1 x1 (S1.set o1)) λ_ _ h=>h⟩
end
def spD(K:PySem.W.Frag)(fn:FN)(n:Nat):Sp:=λvs H Q _=>vs.length=n∧∃F α μ xs r μ',dH K F α μ H∧Paired (λv x=>fB K F α v x) vs xs∧fn xs μ = .ok r μ' ∧
 ∀v H' F' α',Ex F α H F' α' H'→dH K F' α' μ' H'→fB K F' α' v r→Q v H'
section
variable{X:Cx}{f:Addr}{fd:FuncData}{ps:List Str}{x:Str}{p pos:Pos}{e:Expr}{es:List Expr}{ds:List D}{fn:FN}{k:Nat}
theorem Dy{σ:L2.St}{H:Hp}{Q:VK}(hl:ds.length=ps.length)(h:tD X (aB (cal fn) ds) σ H Q):Kk (spD X.K fn ps.length) [] E0 (tDA X ds) σ H Q:=by
 obtain⟨F,α,e,μ,S,h⟩:=h
 refine⟨F,α,e,μ,S,(fC (R.wp_bind h)).mono (λxs μ1 ax vs H1 F1 α1 x1 S1 o1=>?_) λ_ _ h=>h⟩
 obtain⟨hn,h⟩:=ax
 show spD X.K fn ps.length (vs++[]) H1 Q E0
 rw[List.append_nil]
 have h:((fn xs μ1).calm).wp (Dv X.K F α H e σ Q) (fe X F α H e):=h
 cases q:fn xs μ1 with
 | err c μ2=>rw[q] at h;exact h.elim
 | bad=>rw[q] at h;exact h.elim
 | ok r μ2 =>
  rw[q] at h
  exact⟨by rw[o1.length,hn,hl],F1,α1,μ1,xs,r,μ2,S1.st,o1,q,λv H2 F2 α2 x2 S2 o2=>h v H2 F2 α2 (x1.trans x2) (S1.of x2.same x2.pre S2) o2⟩
theorem aC(G:aP X.prog X.w X.K X.mg X.base CX0 k f fd ps (spD X.K fn ps.length))(hr:eS k X.A)(hm:X.mg x=some (.ref f))(hk:PySem.W.keepIn X.K (.ref f)=true)(hb:Binds X.K fd ps [])(ha:CA X (e::es) ds)
  (hl:ds.length=ps.length:=by rfl) (hg:Gl X x:=by rfl) (hdb:(x==("__debug__":Str))=false:=by decide) (he:starEach (e::es) X.env=(false,eval e X.env)::starEach es X.env:=by rfl) (hpl:(backTo pos (starEach es X.env)).any (·.1)=false:=by rfl) :
  CE X (.Call (.Name x p) (e::es) [] pos) (aB (cal fn) ds):=PE.imp (Ie G hr hg hm hk hb .nil Oq ha hdb he hpl) λσ H Q q=>Dy hl q
theorem Cb{id:String}{r:List V→Hp→VK→Prop}{g:T→Option T}{d:D}(hc:fL X (.builtin id) r)(hs:tQ X.K r g)(hm:X.mg x=none)(hv:bootBuiltins x=some (.builtin id))(ha:CE X e d)(hg:Gl X x:=by rfl)(hn:x≠"__name__":=by decide)
  (hdb:(x==("__debug__":Str))=false:=by decide) (hs1:starEach [e] X.env=(false,eval e X.env)::starEach [] X.env:=by rfl) (hpl:(backTo pos (starEach [] X.env)).any (·.1)=false:=by rfl):CE X (.Call (.Name x p) [e] [] pos) (dUn g d) :=
 PE.imp (kb hc hg hm hv (af ha az hs1) hn hdb hs1 hpl) (Kp hs)
theorem FW{id:String}{r:List V→Hp→VK→Prop}{g:T→Option T}{d:D}(hc:fL X (.type id) r)(hs:tQ X.K r g)(hm:X.mg x=none)(hv:bootBuiltins x=some (.type id))(ha:CE X e d)(hg:Gl X x:=by rfl)(hn:x≠"__name__":=by decide)
  (hdb:(x==("__debug__":Str))=false:=by decide) (hs1:starEach [e] X.env=(false,eval e X.env)::starEach [] X.env:=by rfl) (hpl:(backTo pos (starEach [] X.env)).any (·.1)=false:=by rfl):CE X (.Call (.Name x p) [e] [] pos) (dUn g d) :=
 PE.imp (vW hc hg hm hv (af ha az hs1) hn hdb hs1 hpl) (Kp hs)
theorem FX{id:String}{r:List V→Hp→VK→Prop}{g:T→Option T}{d:D}(hc:fL X (.type id) r)(hs:y9 X.K r g)(hm:X.mg x=none)(hv:bootBuiltins x=some (.type id))(ha:CE X e d)(hg:Gl X x:=by rfl)(hn:x≠"__name__":=by decide)
  (hdb:(x==("__debug__":Str))=false:=by decide) (hs1:starEach [e] X.env=(false,eval e X.env)::starEach [] X.env:=by rfl) (hpl:(backTo pos (starEach [] X.env)).any (·.1)=false:=by rfl):CF X (.Call (.Name x p) [e] [] pos) (dUn g d) :=
 ⟨PE.imp (vW hc hg hm hv (af ha az hs1) hn hdb hs1 hpl) (L7 hs),λ_ _ _ _ h=>I_ h⟩
end
inductive Md where
 | V|D|K
def Md.fn:Md→Nat→DS→FN
 | .V=>fnV
 | .D=>fnD
 | .K=>fnK
section
variable{P:Program}{w:World}{K:PySem.W.Frag}{mg:Str→Option Value}{base:Heap}
theorem wj{F H:Hp}{α:List Addr}{μ:ag}{N:List Str}{vs:List V}{xs:List SV}(S:dH K F α μ H)(o:Paired (λv x=>fB K F α v x) vs xs):Sim K F α (starts N.length xs) μ (L2.start N vs) H:=by
 unfold starts
 have hl:=o.length
 refine⟨S,λi x h=>?_,by unfold L2.start;simp[hl]⟩
 have get:∀{vs:List V}{xs:List SV}{i:Nat}{x:SV},Paired (λv x=>fB K F α v x) vs xs→xs[i]?=some x→∃v,vs[i]?=some v∧fB K F α v x:=λ{vs}=>by
  intro xs i x o
  induction o generalizing i with
  | nil=>intro e;simp at e
  | cons r _ ih =>
   intro e
   cases i with
   | zero=>simp at e;subst e;exact⟨_,rfl,r⟩
   | succ i =>
    obtain⟨v,h1,h2⟩:=ih (i:=i) (by simpa using e)
    exact⟨v,by simpa using h1,h2⟩
 unfold slot at h
 by_cases hi:i<xs.length
 ·rw[List.getElem?_append_left (by simpa using hi),List.getElem?_map] at h
  cases q:xs[i]? with
  | none=>rw[q] at h;cases h
  | some y =>
   rw[q] at h
   cases h
   obtain⟨v,h1,h2⟩:=get o q
   refine⟨v,?_,h2⟩
   unfold L2.start
   rw[List.getElem?_append_left (by simpa [hl] using hi),List.getElem?_map,h1]
   rfl
 ·rw[List.getElem?_append_right (by simpa using hi),List.getElem?_replicate] at h
  split at h<;>rename_i q
  ·split at q<;>cases q
  ·cases h
theorem bY{x qual:Str}{st:Stmt}{f:Addr}{fd:FuncData}{N ps:List Str}{k:Nat}{d:DS}(md:Md)(F:Fun K x qual st f fd)(S:aT N ps (ao st))
  (hb:∀(cdv:Value) (A:Around) (outer:List Env) (s:Shared) (H:Hp) (E:XK),eS k (A.deeper (envOfC qual (ao st) s.heap.objs.size f cdv))→CSs (pv CX0 P w K mg base N qual (ao st) f cdv A outer s H E).nox (aO st) d) :
  aP P w K mg base CX0 (k+1) f fd ps (spD K (md.fn N.length d) ps.length):=by
 refine F.ok S (λvs H Q E h=>h.1) λcdv A outer s H vs Q E hr h=>⟨_,hb cdv A outer s H E hr,?_⟩
 obtain⟨hl,F0,α,μ,xs,r,μ',S0,o,h,post⟩:=h
 refine⟨F0,α,_,μ,wj S0 o,?_⟩
 have fin:∀{y:SV}{μ1:ag}{v:V}{H1 F1:Hp}{α1:List Addr},(match md with
   | .V=>ice μ.length y μ1
   | .D=>gc μ.length y μ1
   | .K => .ok y μ1) = .ok r μ'→Ex F0 α H F1 α1 H1→dH K F1 α1 μ1 H1→fB K F1 α1 v y→Q v H1:=λ{y μ1 v H1 F1 α1} hg x1 S1 o1=>by
  cases md with
  | V =>
   obtain⟨F2,g1,g2,g3,g4⟩:=FI S0.len x1.pre S1 o1 hg
   exact post v H1 F2 α ⟨x1.same.trans g1,List.prefix_refl _,λb z h1 h2 h3=>let ⟨a1,a2,a3⟩:=x1.fr b z h1 h2 h3;⟨a1,by rw[g2 b a3];exact a2,h3⟩⟩ g3 g4
  | D =>
   obtain⟨γ,g1,g2,g3,g4⟩:=Ox S0.len x1.pre S1 o1 hg
   exact post v H1 F1 γ ⟨x1.same,g1,λb z h1 h2 h3=>let ⟨a1,a2,a3⟩:=x1.fr b z h1 h2 h3;⟨a1,a2,λhm=>a3 (g2 b hm)⟩⟩ g3 g4
  | K =>
   cases hg
   exact post v H1 F1 α1 x1 S1 o1
 cases q:d (starts N.length xs) μ with
 | rt y μ1=>exact λv H1 F1 α1 x1 S1 o1=>fin (by cases md<;>(simp only[Md.fn,b9,mh,mi,q] at h;exact h)) x1 S1 o1
 | nx e1 μ1=>exact λσ1 H1 F1 α1 x1 S1=>fin (y:=.val .non) (by cases md<;>(simp only[Md.fn,b9,mh,mi,q] at h;exact h)) x1 S1.st (Rep.IY (K:=K) (F:=F1))
 | bk e1 μ1=>cases md<;>(simp only[Md.fn,b9,mh,mi,q] at h;cases h)
 | ct e1 μ1=>cases md<;>(simp only[Md.fn,b9,mh,mi,q] at h;cases h)
 | err c e1 μ1=>cases md<;>(simp only[Md.fn,b9,mh,mi,q] at h;cases h)
 | bad=>cases md<;>(simp only[Md.fn,b9,mh,mi,q] at h;cases h)
end
end Fw
namespace Fw
open PySem
section
variable{α:Type}{μ:List α}{a b c x:α}{l:List α}
@[simp] theorem fE:(μ++a::l)[μ.length]?=some a:=by simp
@[simp] theorem Jd:(μ++a::b::l)[μ.length+1]?=some b:=by simp[List.getElem?_append_right]
@[simp] theorem nA:(μ++a::l).set μ.length x=μ++x::l:=by simp
@[simp] theorem Je:(μ++a::b::l).set (μ.length+1) x=μ++a::x::l:=by simp[List.set_append]
@[simp] theorem Jf:(μ++l).take μ.length=μ:=by simp
end
@[simp] theorem mm(μ:ag)(k:Nat):rd μ (.cel k)=(μ[k]?).map (·.2):=(rfl)
theorem AS{μ:ag}{k:Nat}{b:Bool}{t:T}(h:μ[k]?=some (b,t)):frz (.cel k) μ = .ok t (μ.set k (false,t)):=by
 unfold frz;simp only[h]
@[simp] theorem Cc(μ l:ag)(b:Bool)(t:T):frz (.cel μ.length) (μ++(b,t)::l) = .ok t (μ++(false,t)::l):=by
 rw[AS (b:=b) (t:=t) (by simp)];simp
@[simp] theorem Qr(μ l:ag)(a:Bool×T)(b:Bool)(t:T):frz (.cel (μ.length+1)) (μ++a::(b,t)::l) = .ok t (μ++a::(false,t)::l):=by
 rw[AS (b:=b) (t:=t) (by simp)];simp
@[simp] theorem Jg(n:Nat)(t:T)(μ:ag):ice n (.val t) μ = .ok (.val t) (μ.take n):=(rfl)
@[simp] theorem Qs(μ l:ag)(b:Bool)(t:T):ice μ.length (.cel μ.length) (μ++(b,t)::l) = .ok (.val t) μ:=by unfold ice;simp
@[simp] theorem Q1(μ l:ag)(a:Bool×T):gc μ.length (.cel μ.length) (μ++a::l) = .ok (.cel μ.length) (μ++[a]):=by unfold gc;simp
@[simp] theorem zg(μ l:ag)(b:Bool)(ts:List T):qq (.cel μ.length) (μ++(b,.lst ts)::l)=some ():=nj (b:=b) (ts:=ts) (by simp)
@[simp] theorem OJ(μ l:ag)(a:Bool×T)(b:Bool)(ts:List T):qq (.cel (μ.length+1)) (μ++a::(b,.lst ts)::l)=some ():=nj (b:=b) (ts:=ts) (by simp)
theorem append_at{μ:ag}{k:Nat}{ts:List T}{t:T}(h:μ[k]?=some (true,.lst ts))(hl:ts.length<szL):appendAt (.cel k) t μ=some (μ.set k (true,.lst (ts++[t]))):=by
 unfold appendAt;simp only[h];rw[if_pos hl]
theorem tV(μ l:ag)(ts:List T)(t:T)(hl:ts.length<szL):appendAt (.cel μ.length) t (μ++(true,.lst ts)::l)=some (μ++(true,.lst (ts++[t]))::l):=by
 rw[append_at (ts:=ts) (by simp) hl];simp
theorem AU(μ l:ag)(a:Bool×T)(ts:List T)(t:T)(hl:ts.length<szL):appendAt (.cel (μ.length+1)) t (μ++a::(true,.lst ts)::l)=some (μ++a::(true,.lst (ts++[t]))::l):=by
 rw[append_at (ts:=ts) (by simp) hl];simp
theorem tW{μ:ag}{k:Nat}{ts:List T}{t:T}{i:Int}(h:μ[k]?=some (true,.lst ts))(h0:0≤i)(h1:i<ts.length):setAt (.cel k) (.int i) t μ=some (μ.set k (true,.lst (ts.set i.toNat t))):=by
 unfold setAt;simp only[h];unfold ixN;rw[if_pos h0,if_pos h1];rfl
@[simp] theorem wk(m:Nat)(xs:List SV):starts m xs=xs.map some++List.replicate (m-xs.length) none:=(rfl)
theorem sF{α:Type}{xs:List α}{i:Int}(h0:0≤i):atI xs i=xs[i.toNat]?:=by
 unfold atI ixN
 rw[if_pos h0]
 by_cases h:i<xs.length
 ·rw[if_pos h];rfl
 ·rw[if_neg h]
  exact (List.getElem?_eq_none (by lia)).symm
theorem jM{α β:Type}{xs:List α}{f:α→β}{i:Int}(h0:0≤i)(h1:i<xs.length):atI (xs.map f) i=some (f (xs[i.toNat]'(by lia))):=by
 rw[sF h0,List.getElem?_map,List.getElem?_eq_getElem (by lia)];rfl
@[simp] theorem zh{α:Type}(x:α)(xs:List α):atI (x::xs) 0=some x:=by rw[sF (by lia)];rfl
@[simp] theorem Cd{α:Type}(x y:α)(xs:List α):atI (x::y::xs) 1=some y:=by rw[sF (by lia)];rfl
@[simp] theorem Jh{α:Type}(x y z:α)(xs:List α):atI (x::y::z::xs) 2=some z:=by rw[sF (by lia)];rfl
def gJ(lo:Int)(n:Nat):List Int:=(List.range n).map λ(k:Nat)=>lo+(k:Int)
theorem js(lo:Int)(n:Nat):bW lo n=(gJ lo n).map T.int:=by
 unfold gJ
 induction n generalizing lo with
 | zero=>rfl
 | succ n ih =>
  rw[bW,ih (lo+1),List.range_succ_eq_map]
  simp only[List.map_cons,List.map_map]
  congr 1
  ·simp
  ·apply List.map_congr_left
   intro k _
   simp only[Function.comp]
   congr 1
   lia
@[simp] theorem vh(lo:Int)(n:Nat):(gJ lo n).length=n:=by simp[gJ]
theorem tX{lo:Int}{n:Nat}{k:Int}:k∈gJ lo n↔lo≤k∧k<lo+n:=by
 unfold gJ
 rw[List.mem_map]
 constructor
 ·rintro⟨j,hj,rfl⟩
  rw[List.mem_range] at hj
  lia
 ·rintro⟨h1,h2⟩
  exact⟨(k-lo).toNat,by rw[List.mem_range];lia,by lia⟩
theorem AV{lo:Int}{n i:Nat}{k:Int}(h:(gJ lo n)[i]?=some k):i<n∧k=lo+i:=by
 unfold gJ at h
 rw[List.getElem?_map] at h
 by_cases hi:i<n
 ·rw[List.getElem?_range hi] at h
  cases h
  exact⟨hi,rfl⟩
 ·rw[List.getElem?_eq_none (by simpa using hi)] at h
  cases h
theorem pO{lo:Int}{n i:Nat}{t:T}(h:(bW lo n)[i]?=some t):i<n∧t = .int (lo+i):=by
 rw[js,List.getElem?_map] at h
 cases q:(gJ lo n)[i]? with
 | none=>rw[q] at h;cases h
 | some k =>
  rw[q] at h
  cases h
  obtain⟨h1,rfl⟩:=AV q
  exact⟨h1,rfl⟩
theorem nC{lo:Int}{n i:Nat}{t:T}(h:(bW lo n)[i]?=some t):∃k:Int,t = .int k∧i<n∧k=lo+i:=by
 obtain⟨h1,rfl⟩:=pO h
 exact⟨_,rfl,h1,rfl⟩
@[simp] theorem eE(lo:Int)(n:Nat):(bW lo n).length=n:=by rw[js];simp
theorem FY{α:Type}(g:α→Bool)(xs:List α):yV (.lst (xs.map λk=>T.bl (g k)))=some (.bl (xs.all g)):=by
 have e:(xs.map λk=>T.bl (g k))=(xs.map g).map T.bl:=by simp
 rw[e,FA];simp[List.all_map]
theorem mq{α:Type}(g:α→Int)(xs:List α):ma (.lst (xs.map λk=>T.int (g k)))=some (.int (xs.map g).sum):=by
 have e:(xs.map λk=>T.int (g k))=(xs.map g).map T.int:=by simp
 rw[e,Dp]
def RS.tY(r:RS)(J:Slots→ag→Prop)(P:RS→Prop):Prop:=match r with
 | .nx e μ=>J e μ
 | .ct e μ=>J e μ
 | .bk e μ=>P (.nx e μ)
 | r=>P r
@[simp] theorem Ce(e:Slots)(μ:ag)(J:Slots→ag→Prop)(P:RS→Prop):(RS.nx e μ).tY J P=J e μ:=(rfl)
@[simp] theorem Ji(x:SV)(μ:ag)(J:Slots→ag→Prop)(P:RS→Prop):(RS.rt x μ).tY J P=P (.rt x μ):=(rfl)
theorem mr{same:ag→Prop}{b:BD}{body:DS}(P:RS→Prop)(I:Nat→Slots→ag→Prop)(hs:∀i e μ,I i e μ→same μ){ts:List T}
  (step:∀i t e μ,ts[i]?=some t→I i e μ→∃e1,b t e=some e1∧(body e1 μ).tY (I (i+1)) P) (fin:∀e μ,I ts.length e μ→P (.nx e μ)) {e:Slots}{μ:ag} (h:I 0 e μ):P (forL same b body ts e μ):=by
 have all:∀(us:List T) (i:Nat) (e:Slots) (μ:ag),ts.drop i=us→I i e μ→i≤ts.length→P (forL same b body us e μ):=by
  intro us
  induction us with
  | nil =>
   intro i e μ hd hI hi
   have hl:ts.length≤i:=by
    have:=congrArg List.length hd
    simp at this
    lia
   have e1:i=ts.length:=by lia
   subst e1
   unfold forL
   rw[if_pos (hs _ _ _ hI)]
   exact fin e μ hI
  | cons t us ih =>
   intro i e μ hd hI hi
   have hlt:i<ts.length:=by
    have:=congrArg List.length hd
    simp at this
    lia
   have hg:ts[i]?=some t:=by
    have:(ts.drop i)[0]?=some t:=by rw[hd];rfl
    rw[List.getElem?_drop] at this
    simpa using this
   have hd':ts.drop (i+1)=us:=by
    rw[← List.tail_drop,hd];rfl
   obtain⟨e1,h1,h2⟩:=step i t e μ hg hI
   unfold forL
   rw[if_pos (hs _ _ _ hI)]
   simp only[h1]
   cases q:body e1 μ with
   | nx e2 μ2=>rw[q] at h2;exact ih (i+1) e2 μ2 hd' h2 hlt
   | ct e2 μ2=>rw[q] at h2;exact ih (i+1) e2 μ2 hd' h2 hlt
   | bk e2 μ2=>rw[q] at h2;exact h2
   | rt x μ2=>rw[q] at h2;exact h2
   | err c e2 μ2=>rw[q] at h2;exact h2
   | bad=>rw[q] at h2;exact h2
 exact all ts 0 e μ rfl h (Nat.zero_le _)
theorem ic{same:ag→Prop}{b:BD}{body:DS}(I:Nat→Slots→ag→Prop)(hs:∀i e μ,I i e μ→same μ){ts:List T}
  (step:∀i t e μ,ts[i]?=some t→I i e μ→∃e1 e2 μ2,b t e=some e1∧body e1 μ = .nx e2 μ2∧I (i+1) e2 μ2) {e:Slots}{μ:ag} (h:I 0 e μ):∃e' μ',forL same b body ts e μ = .nx e' μ'∧I ts.length e' μ' :=
 mr (P:=λr=>∃e' μ',r = .nx e' μ'∧I ts.length e' μ') I hs (λi t e μ ht hI=>by
  obtain⟨e1,e2,μ2,h1,h2,h3⟩:=step i t e μ ht hI
  exact⟨e1,h1,by rw[h2];exact h3⟩) (λe μ hI=>⟨e,μ,rfl,hI⟩) h
theorem tZ{same:ag→Prop}{b:BD}{c d:D}{e:Slots}{μ:ag}(p:Int→Bool)(g:Int→T)(hs:same μ)(ns:List Int)
  (h:∀n∈ns,∃e1,b (.int n) e=some e1∧c e1 μ = .ok (.val (.bl (p n))) μ∧(p n=true→d e1 μ = .ok (.val (g n)) μ)):cy same b c d e (ns.map T.int) μ = .ok ((ns.filter p).map g) μ:=by
 induction ns with
 | nil=>unfold cy;rw[List.map_nil];simp only;rw[if_pos hs];rfl
 | cons n ns ih =>
  obtain⟨e1,h1,h2,h3⟩:=h n List.mem_cons_self
  have ih:=ih λu hu=>h u (List.mem_cons_of_mem _ hu)
  rw[List.map_cons]
  unfold cy
  rw[if_pos hs]
  simp only[h1,h2,R.eK,R.bf,jn,R.ba]
  cases q:p n with
  | true=>rw[if_pos rfl,h3 q];simp[q,ih]
  | false=>rw[if_neg Bool.false_ne_true,ih];simp[q]
theorem wm{same:ag→Prop}{b:BD}{d:D}{e:Slots}{μ:ag}(g:Int→T)(hs:same μ)(ns:List Int)
  (h:∀n∈ns,∃e1,b (.int n) e=some e1∧d e1 μ = .ok (.val (g n)) μ):cy same b (dC (.bl true)) d e (ns.map T.int) μ = .ok (ns.map g) μ:=by
 have:=tZ (same:=same) (b:=b) (c:=dC (.bl true)) (d:=d) (e:=e) (μ:=μ) (λ_=>true) g hs ns λn hn=>by
  obtain⟨e1,h1,h2⟩:=h n hn
  exact⟨e1,h1,rfl,λ_=>h2⟩
 rw[this]
 congr 2
 exact List.filter_eq_self.mpr λ_ _=>rfl
theorem pP{α:Type}{same:ag→Prop}{b:BD}{c d:D}{e:Slots}{μ:ag}(f:α→T)(p:α→Bool)(g:α→T)(hs:same μ)(as:List α)
  (h:∀a∈as,∃e1,b (f a) e=some e1∧c e1 μ = .ok (.val (.bl (p a))) μ∧(p a=true→d e1 μ = .ok (.val (g a)) μ)):cy same b c d e (as.map f) μ = .ok ((as.filter p).map g) μ:=by
 induction as with
 | nil=>unfold cy;rw[List.map_nil];simp only;rw[if_pos hs];rfl
 | cons n ns ih =>
  obtain⟨e1,h1,h2,h3⟩:=h n List.mem_cons_self
  have ih:=ih λu hu=>h u (List.mem_cons_of_mem _ hu)
  rw[List.map_cons]
  unfold cy
  rw[if_pos hs]
  simp only[h1,h2,R.eK,R.bf,jn,R.ba]
  cases q:p n with
  | true=>rw[if_pos rfl,h3 q];simp[q,ih]
  | false=>rw[if_neg Bool.false_ne_true,ih];simp[q]
theorem bE{α:Type}{same:ag→Prop}{b:BD}{d:D}{e:Slots}{μ:ag}(f:α→T)(g:α→T)(hs:same μ)(as:List α)
  (h:∀a∈as,∃e1,b (f a) e=some e1∧d e1 μ = .ok (.val (g a)) μ):cy same b (dC (.bl true)) d e (as.map f) μ = .ok (as.map g) μ:=by
 have:=pP (same:=same) (b:=b) (c:=dC (.bl true)) (d:=d) (e:=e) (μ:=μ) f (λ_=>true) g hs as λn hn=>by
  obtain⟨e1,h1,h2⟩:=h n hn
  exact⟨e1,h1,rfl,λ_=>h2⟩
 rw[this]
 congr 2
 exact List.filter_eq_self.mpr λ_ _=>rfl
theorem gC(xs ys:List Int):fA (xs.map T.int) (ys.map T.int)=(xs.zip ys).map λq => .tup [.int q.1,.int q.2]:=by
 induction xs generalizing ys with
 | nil=>rfl
 | cons x xs ih =>
  cases ys with
  | nil=>rfl
  | cons y ys=>simp[fA,ih]
theorem ix(ts us:List T):(fA ts us).length=min ts.length us.length:=by
 induction ts generalizing us with
 | nil=>simp[fA]
 | cons t ts ih =>
  cases us with
  | nil=>simp[fA]
  | cons u us=>simp[fA,ih]
theorem jN{c:D}{body:DS}:∀(n m:Nat) (e:Slots) (μ:ag),n≤m→dJ c body n e μ ≠ .bad→dJ c body m e μ=dJ c body n e μ
 | 0,m,e,μ,_,h=>absurd rfl h
 | n+1,0,e,μ,h,_=>absurd h (by lia)
 | n+1,m+1,e,μ,hnm,h=>by
  unfold dJ at h ⊢
  cases q:c e μ with
  | err x μ1=>simp only[R.toS_err]
  | bad=>rw[q] at h;exact absurd rfl h
  | ok x μ1 =>
   rw[q] at h
   simp only[R.toS_ok] at h ⊢
   cases q2:asB x with
   | none=>rw[q2] at h;exact absurd rfl h
   | some k =>
    rw[q2] at h
    simp only[R.ba,R.toS_ok] at h ⊢
    cases k with
    | false=>rfl
    | true =>
     rw[if_pos rfl] at h ⊢
     rw[if_pos rfl]
     cases q3:body e μ1 with
     | nx e2 μ2=>rw[q3] at h;simp only at h ⊢;exact jN n m e2 μ2 (by lia) h
     | ct e2 μ2=>rw[q3] at h;simp only at h ⊢;exact jN n m e2 μ2 (by lia) h
     | bk e2 μ2=>rfl
     | rt x μ2=>rfl
     | err x e2 μ2=>rfl
     | bad=>rfl
theorem Dz{c:D}{body:DS}{n:Nat}{e:Slots}{μ:ag}(h:dJ c body n e μ ≠ .bad):kM c body e μ=dJ c body n e μ:=by
 have hn:∃n,dJ c body n e μ ≠ .bad:=⟨n,h⟩
 unfold kM
 rw[dif_pos hn]
 have h2:=hn.choose_spec
 rcases Nat.le_total n hn.choose with z|z
 ·exact jN _ _ _ _ z h
 ·exact (jN _ _ _ _ z h2).symm
theorem t4{c:D}{body:DS}(P:RS→Prop)(hP:¬ P .bad)(I:Nat→Slots→ag→Prop)
  (step:∀m e μ,I m e μ→∃k μ1,c e μ = .ok (.val (.bl k)) μ1∧if k=true then (body e μ1).tY (λe2 μ2=>∃m',m'<m∧I m' e2 μ2) P else P (.nx e μ1)) :
  ∀(m:Nat) (e:Slots) (μ:ag),I m e μ→P (kM c body e μ):=by
 have key:∀(m:Nat) (e:Slots) (μ:ag),I m e μ→∃n,P (dJ c body n e μ):=by
  intro m
  induction m using Nat.strongRecOn with
  | ind m ih =>
   intro e μ hI
   obtain⟨k,μ1,h1,h2⟩:=step m e μ hI
   cases k with
   | false =>
    refine⟨1,?_⟩
    unfold dJ
    simp only[h1,R.toS_ok,jn,R.ba,Bool.false_eq_true,if_false]
    exact h2
   | true =>
    rw[if_pos rfl] at h2
    cases q:body e μ1 with
    | nx e2 μ2 =>
     rw[q] at h2
     obtain⟨m',hm,hI'⟩:=h2
     obtain⟨n,hn⟩:=ih m' hm e2 μ2 hI'
     refine⟨n+1,?_⟩
     unfold dJ
     simp only[h1,R.toS_ok,jn,R.ba,if_true,q]
     exact hn
    | ct e2 μ2 =>
     rw[q] at h2
     obtain⟨m',hm,hI'⟩:=h2
     obtain⟨n,hn⟩:=ih m' hm e2 μ2 hI'
     refine⟨n+1,?_⟩
     unfold dJ
     simp only[h1,R.toS_ok,jn,R.ba,if_true,q]
     exact hn
    | bk e2 μ2 =>
     rw[q] at h2
     refine⟨1,?_⟩
     unfold dJ
     simp only[h1,R.toS_ok,jn,R.ba,if_true,q]
     exact h2
    | rt x μ2 =>
     rw[q] at h2
     refine⟨1,?_⟩
     unfold dJ
     simp only[h1,R.toS_ok,jn,R.ba,if_true,q]
     exact h2
    | err x e2 μ2 =>
     rw[q] at h2
     refine⟨1,?_⟩
     unfold dJ
     simp only[h1,R.toS_ok,jn,R.ba,if_true,q]
     exact h2
    | bad=>rw[q] at h2;exact absurd h2 hP
 intro m e μ hI
 obtain⟨n,hn⟩:=key m e μ hI
 rw[Dz (n:=n) (λz=>hP (z ▸ hn))]
 exact hn
def pQ:T→Option Key
 | .int i=>some (.inl i)
 | .str x=>some (.inr x)
 | _=>none
@[simp] theorem DA(i:Int):pQ (.int i)=some (.inl i):=(rfl)
def kS(kts:List (Key×T))(k:Key):Option T:=(kts.find? λkv=>decide (kv.1=k)).map (·.2)
def xm(kts:List (Key×T))(k:Key)(t:T):List (Key×T) :=
 if (kts.any λkv=>decide (kv.1=k))=true then kts.map (λkv=>if kv.1=k then (kv.1,t) else kv) else kts++[(k,t)]
def t5:T→T→Option T
 | .dct kts,u=>(pQ u).bind λk=>kS kts k
 | _,_=>none
@[simp] theorem DB(kts:List (Key×T))(i:Int):t5 (.dct kts) (.int i)=kS kts (.inl i):=(rfl)
def VP:T→T→Option T
 | u,.dct kts=>(pQ u).map λk => .bl (kS kts k).isSome
 | _,_=>none
def wo:T→T→Option T
 | u,.dct kts=>(pQ u).map λk => .bl (!(kS kts k).isSome)
 | _,_=>none
@[simp] theorem DC(kts:List (Key×T))(i:Int):wo (.int i) (.dct kts)=some (.bl (!(kS kts (.inl i)).isSome)):=(rfl)
def oy(x:SV)(k:T)(t:T)(μ:ag):Option ag:=match x with
 | .cel c=>match μ[c]? with
  | some (true,.dct kts)=>(pQ k).bind λkk=>if kts.length<szL then some (μ.set c (true,.dct (xm kts kk t))) else none
  | _=>none
 | _=>none
def rG(i:Nat)(dk dv:D):DS:=λe μ=>(dv e μ).toS e λy μ1=>(R.lift (slot e i) μ1).toS e λx μ1=>(dk e μ1).toS e λz μ2=>(R.lift (rd μ2 z) μ2).toS e λk μ2 =>
 (frz y μ2).toS e λt μ3=>(R.lift (oy x k t μ3) μ3).toS e λμ4 _ => .nx e μ4
@[simp] theorem t6(i:Nat)(dk dv:D)(e:Slots)(μ:ag):rG i dk dv e μ=(dv e μ).toS e λy μ1=>(R.lift (slot e i) μ1).toS e λx μ1=>(dk e μ1).toS e λz μ2=>(R.lift (rd μ2 z) μ2).toS e λk μ2 =>
 (frz y μ2).toS e λt μ3=>(R.lift (oy x k t μ3) μ3).toS e λμ4 _ => .nx e μ4:=(rfl)
theorem wq{μ:ag}{c:Nat}{kts:List (Key×T)}{i:Int}{t:T}(h:μ[c]?=some (true,.dct kts))(hl:kts.length<szL):oy (.cel c) (.int i) t μ=some (μ.set c (true,.dct (xm kts (.inl i) t))):=by
 unfold oy
 simp only[h,DA,Option.bind_some,hl,if_true]
def e8(kts:List (Key×T)):List T:=kts.map λp => .tup [yU p.1,p.2]
def asD:T→Option (List (Key×T))
 | .dct kts=>some kts
 | _=>none
@[simp] theorem xn(kts:List (Key×T)):asD (.dct kts)=some kts:=(rfl)
def kT(d:D):DI:=λe μ=>(d e μ).bind λx μ1=>(R.lift ((rd μ1 x).bind asD) μ1).bind λkts μ1 => .ok ⟨e8 kts,λμ'=>rd μ' x=rd μ1 x⟩ μ1
@[simp] theorem qx(d:D)(e:Slots)(μ:ag):kT d e μ=(d e μ).bind λx μ1=>(R.lift ((rd μ1 x).bind asD) μ1).bind λkts μ1 => .ok ⟨e8 kts,λμ'=>rd μ' x=rd μ1 x⟩ μ1:=(rfl)
def jt(i:Int):List T→List T
 | []=>[]
 | t::ts => .tup [.int i,t]::jt (i+1) ts
theorem wt:∀(i:Int) (ts:List T),(jt i ts).length=ts.length
 | i,[]=>rfl
 | i,t::ts=>by simp[jt,wt (i+1) ts]
theorem wu:∀{i:Int}{ts:List T}{j:Nat}{t:T},(jt i ts)[j]?=some t→∃a,ts[j]?=some a∧t = .tup [.int (i+j),a]
 | i,[],j,t,h=>by simp[jt] at h
 | i,a::ts,0,t,h=>by simp[jt] at h;exact⟨a,rfl,by simp[← h]⟩
 | i,a::ts,j+1,t,h=>by
  obtain⟨b,h1,h2⟩:=wu (i:=i+1) (ts:=ts) (j:=j) (t:=t) (by simpa [jt] using h)
  refine⟨b,by simpa using h1,?_⟩
  rw[h2,show i+1+(j:Int)=i+((j+1:Nat):Int) by lia]
theorem FZ(i:Int)(ts:List T)(j:Nat):(jt i ts)[j]?=(ts[j]?).map λt => .tup [.int (i+j),t]:=by
 induction ts generalizing i j with
 | nil=>simp[jt]
 | cons a ts ih =>
  cases j with
  | zero=>simp[jt]
  | succ j=>simp only[jt,List.getElem?_cons_succ,ih];congr 1;funext t;rw[show i+1+(j:Int)=i+((j+1:Nat):Int) by lia]
def Cf(d:D):DI:=λe μ=>(d e μ).bind λx μ1=>(R.lift ((rd μ1 x).bind bw) μ1).bind λts μ1 => .ok ⟨jt 0 ts,λμ'=>rd μ' x=rd μ1 x⟩ μ1
@[simp] theorem F_(d:D)(e:Slots)(μ:ag):Cf d e μ=(d e μ).bind λx μ1=>(R.lift ((rd μ1 x).bind bw) μ1).bind λts μ1 => .ok ⟨jt 0 ts,λμ'=>rd μ' x=rd μ1 x⟩ μ1:=(rfl)
def mv:T→Bool
 | .non=>true
 | .bl _=>true
 | .int _=>true
 | .str _=>true
 | _=>false
def inT(t:T)(us:List T):Bool:=us.any λy=>eqT y t
def fIn(t u:T):Option T:=match bw u with
 | some us=>if (mv t && us.all mv)=true then some (.bl (inT t us)) else none
 | none=>none
@[simp] theorem vi(ns:List Int):(ns.map T.int).all mv=true:=by simp[mv]
theorem Ga(i:Int)(ns:List Int):inT (.int i) (ns.map T.int)=decide (i∈ns):=by
 unfold inT
 rw[Bool.eq_iff_iff,decide_eq_true_iff,List.any_eq_true]
 constructor
 ·rintro⟨t,ht,he⟩
  obtain⟨j,hj,rfl⟩:=List.mem_map.mp ht
  rw[B0,beq_iff_eq] at he
  exact he ▸ hj
 ·intro h
  exact⟨_,List.mem_map.mpr ⟨i,h,rfl⟩,by rw[B0,beq_iff_eq]⟩
@[simp] theorem zi(i:Int)(ns:List Int):fIn (.int i) (.lst (ns.map T.int))=some (.bl (decide (i∈ns))):=by
 unfold fIn
 simp only[i5,vi,Bool.and_true,Ga]
 rfl
def OK:T→T→Option T
 | .int i,.int j=>if 0≤i∧j=1 then some (.int (i%2)) else none
 | _,_=>none
@[simp] theorem DD(i:Int)(h:0≤i):OK (.int i) (.int 1)=some (.int (i%2)):=if_pos ⟨h,rfl⟩
def DE:T→Option T
 | .int i=>some (.int i)
 | .bl b=>some (.int (if b then 1 else 0))
 | _=>none
@[simp] theorem Gb(i:Int):DE (.int i)=some (.int i):=(rfl)
@[simp] theorem Jj(b:Bool):DE (.bl b)=some (.int (if b then 1 else 0)):=(rfl)
def asV:SV→Option T
 | .val t=>some t
 | _=>none
@[simp] theorem Jk(t:T):asV (.val t)=some t:=(rfl)
def zj(is:List Nat)(d:D):DS:=λe μ=>(d e μ).toS e λx μ1=>(R.lift ((asV x).bind λt=>b4 is t e) μ1).toS e λe' μ1 => .nx e' μ1
@[simp] theorem Jl(is:List Nat)(d:D)(e:Slots)(μ:ag):zj is d e μ=(d e μ).toS e λx μ1=>(R.lift ((asV x).bind λt=>b4 is t e) μ1).toS e λe' μ1 => .nx e' μ1:=(rfl)
@[simp] theorem t7(i j k:Nat)(t u v:T)(e:Slots):b4 [i,j,k] (.tup [t,u,v]) e=some (((e.set i (some (.val t))).set j (some (.val u))).set k (some (.val v))):=(rfl)
def Cg(x:SV)(μ:ag):Option ag:=match x with
 | .cel k=>match μ[k]? with
  | some (true,.lst _)=>some (μ.set k (true,.lst []))
  | _=>none
 | _=>none
def Mc(o:D):DS:=λe μ=>(o e μ).toS e λx μ0=>(R.lift (Cg x μ0) μ0).toS e λμ1 _ => .nx e μ1
@[simp] theorem DF(o:D)(e:Slots)(μ:ag):Mc o e μ=(o e μ).toS e λx μ0=>(R.lift (Cg x μ0) μ0).toS e λμ1 _ => .nx e μ1:=(rfl)
def Q2:T→Option T
 | .lst ts=>some (.lst ts.reverse)
 | _=>none
@[simp] theorem Gd(ts:List T):Q2 (.lst ts)=some (.lst ts.reverse):=(rfl)
theorem bG{us:List Value}{n:Nat}(h:us.length=n+1):∃a as,us=a::as:=by
 cases us with
 | nil=>cases h
 | cons a as=>exact⟨a,as,rfl⟩
def gD:List T→List T→List T→List T
 | t::ts,u::us,v::vs => .tup [t,u,v]::gD ts us vs
 | _,_,_=>[]
def rH(d d' d'':D):DI:=λe μ=>(d e μ).bind λx μ1=>(d' e μ1).bind λy μ2=>(d'' e μ2).bind λz μ3=>(R.lift ((rd μ3 x).bind bw) μ3).bind λts μ3=>(R.lift ((rd μ3 y).bind bw) μ3).bind λus μ3=>(R.lift ((rd μ3 z).bind bw) μ3).bind λvs μ3 =>
 .ok ⟨gD ts us vs,λμ'=>rd μ' x=rd μ3 x∧rd μ' y=rd μ3 y∧rd μ' z=rd μ3 z⟩ μ3
theorem zk(d d' d'':D)(e:Slots)(μ:ag):rH d d' d'' e μ=(d e μ).bind λx μ1=>(d' e μ1).bind λy μ2=>(d'' e μ2).bind λz μ3=>(R.lift ((rd μ3 x).bind bw) μ3).bind λts μ3=>(R.lift ((rd μ3 y).bind bw) μ3).bind λus μ3=>(R.lift ((rd μ3 z).bind bw) μ3).bind λvs μ3 =>
 .ok ⟨gD ts us vs,λμ'=>rd μ' x=rd μ3 x∧rd μ' y=rd μ3 y∧rd μ' z=rd μ3 z⟩ μ3:=(rfl)
def oA:T→T→Option T
 | .int i,.int j=>if j=1 then some (.int (i%2)) else none
 | _,_=>none
theorem AW(i:Int):oA (.int i) (.int 1)=some (.int (i%2)):=by unfold oA;exact if_pos rfl
def plain:List (Sum T Nat)→Option (List T)
 | []=>some []
 | .inl t::xs=>(plain xs).map λts=>t::ts
 | .inr _::_=>none
def AX(n:Str):DS:=λe μ => .err (.exc n none) e μ
def DG(b:DS)(h:Str→DS):DS:=λe μ=>match b e μ with
 | .err (.exc n none) e' μ'=>h n e' μ'
 | .err _ _ _ => .bad
 | r=>r
def kr(d:DS):DS:=λe μ=>match d e μ with
 | .err _ _ _ => .bad
 | r=>r
def OL(i:Nat)(r:RS):RS:=match r with
 | .nx e μ => .nx (e.set i none) μ
 | .bk e μ => .bk (e.set i none) μ
 | .ct e μ => .ct (e.set i none) μ
 | r=>r
def sAs(i:Nat)(n:Str)(d:DS):DS:=λe μ=>OL i (kr d (e.set i (some (.val (.exc n none)))) μ)
def qy(f:Str→Option Bool)(da:D):D:=λe μ=>(da e μ).bind λx μ1=>match x with
 | .val (.exc n none)=>(match f n with
  | some b => .ok (.val (.bl b)) μ1
  | none => .bad)
 | _ => .bad
end Fw
namespace Fw
open PySem L2 PyProof.Rows
theorem zl{X:Cx}{x:Str}{C:Addr}{bmB:List Value}{B newId AD:String}{np jl pos p2:Pos}{m:Str}{j:Nat}(F:ExcBaseFacts B newId AD bmB)(hc:X.calm=true)(hm:X.mg x=some (.ref C))(q:PySem.W.excIn X.K C bmB newId=true)(hg:Gl X x:=by rfl)
  (hpl:(backTo jl (starEach [.Constant (.str m) j p2] X.env)).any (·.1)=false:=by rfl) (hs:starEach [.Constant (.str m) j p2] X.env=(false,eval (.Constant (.str m) j p2) X.env)::starEach [] X.env:=by rfl) (hd:(x==("__debug__":Str))=false:=by decide) :
  CS X (.Raise (some (.Call (.Name x np) [.Constant (.str m) j p2] [] jl)) none pos) (AX x) :=
 PS.imp (Fj F hc hg hm q hpl hs hd) λD σ H ⟨F,α,e,μ,S,h⟩=>λpins s h' e' vs I hx =>
  h _ _ ⟨pins,σ,H,F,α,Ex.refl,S,x,C,rfl,hm,.inl ⟨hc,s,h',e',vs,I,hx,rfl,rfl⟩⟩
def spX(K:PySem.W.Frag)(mg:Str→Option Value)(fn:FN)(n:Nat):Sp:=λvs H Q E=>vs.length=n∧∃F α μ xs,dH K F α μ H∧Paired (λv x=>fB K F α v x) vs xs ∧
 (fn xs μ).wp (λr μ'=>∀v H' F' α',Ex F α H F' α' H'→dH K F' α' μ' H'→fB K F' α' v r→Q v H')
  (λc μ'=>∀n C,c = .exc n none→mg n=some (.ref C)→∀H' F' α',Ex F α H F' α' H'→dH K F' α' μ' H'→E (.ref C) none H')
section
variable{P:Program}{w:World}{K:PySem.W.Frag}{mg:Str→Option Value}{base:Heap}
theorem Me{x qual:Str}{st:Stmt}{f:Addr}{fd:FuncData}{N ps:List Str}{k:Nat}{d:DS}(F:Fun K x qual st f fd)(S:aT N ps (ao st))
  (hb:∀(cdv:Value) (A:Around) (outer:List Env) (s:Shared) (H:Hp) (E:XK),eS k (A.deeper (envOfC qual (ao st) s.heap.objs.size f cdv))→CSs (pv (CX1 P w) P w K mg base N qual (ao st) f cdv A outer s H E) (aO st) d) :
  aP P w K mg base (CX1 P w) (k+1) f fd ps (spX K mg (fnV N.length d) ps.length):=by
 obtain⟨oc,od,kV,doc,pm,an,cdv,ct,osl,rfl,lk,hcd⟩:=F.ex
 refine Kl lk hcd S (λvs H Q E h=>h.1) λA outer s H vs Q E hr h=>⟨_,hb cdv A outer s H E hr,?_⟩
 obtain⟨hl,F0,α,μ,xs,S0,o,h⟩:=h
 refine⟨F0,α,_,μ,wj S0 o,?_⟩
 rw[b9] at h
 have fin:∀{y r:SV}{μ1 μ':ag}{v:V}{H1 F1:Hp}{α1:List Addr},ice μ.length y μ1 = .ok r μ'→Ex F0 α H F1 α1 H1→dH K F1 α1 μ1 H1→fB K F1 α1 v y→∃F2,Ex F0 α H F2 α H1∧dH K F2 α μ' H1∧fB K F2 α v r:=λ{y r μ1 μ' v H1 F1 α1} hg x1 S1 o1=>by
  obtain⟨F2,g1,g2,g3,g4⟩:=FI S0.len x1.pre S1 o1 hg
  exact⟨F2,⟨x1.same.trans g1,List.prefix_refl _,λb z h1 h2 h3=>let ⟨a1,a2,a3⟩:=x1.fr b z h1 h2 h3;⟨a1,by rw[g2 b a3];exact a2,h3⟩⟩,g3,g4⟩
 cases q:d (starts N.length xs) μ with
 | rt y μ1 =>
  intro v H1 F1 α1 x1 S1 o1
  rw[q,sD] at h
  cases hi:ice μ.length y μ1 with
  | ok r μ' =>
   rw[hi] at h
   obtain⟨F2,a1,a2,a3⟩:=fin hi x1 S1 o1
   exact h v H1 F2 α a1 a2 a3
  | err c μ' =>
   unfold ice at hi
   cases hz:frz y μ1 with
   | ok t μ2=>rw[hz] at hi;cases hi
   | err c2 μ2=>exact absurd hz (sZ y μ1 c2 μ2)
   | bad=>rw[hz] at hi;cases hi
  | bad=>rw[hi] at h;exact h.elim
 | nx e1 μ1 =>
  intro σ1 H1 F1 α1 x1 S1
  rw[q] at h
  obtain⟨F2,a1,a2,a3⟩:=fin (y:=.val .non) (r:=.val .non) (μ':=μ1.take μ.length) rfl x1 S1.st (Rep.IY (K:=K) (F:=F1))
  exact h .non H1 F2 α a1 a2 a3
 | bk e1 μ1=>rw[q] at h;exact h.elim
 | ct e1 μ1=>rw[q] at h;exact h.elim
 | bad=>rw[q] at h;exact h.elim
 | err c e1 μ1 =>
  rw[q] at h
  rintro ev s' ⟨pins,σ',H',F',α',x1,S1,n,C,rfl,hm,Mf⟩
  obtain⟨F2,a1,a2,a3⟩:=fin (y:=.val .non) (r:=.val .non) (μ':=μ1.take μ.length) rfl x1 S1.st (Rep.IY (K:=K) (F:=F'))
  have hE:E (.ref C) none H':=h n C rfl hm H' F2 α a1 a2
  rcases Mf with ⟨_,s2,h',e,vs',I,hx,rfl,rfl⟩|⟨H0,s2,I,hx⟩|⟨_,e2,t2,B2,rfl,c2⟩
  ·exact Fh I hx hE
  ·exact Iw I hx λcv H'' ax=>by obtain⟨z1,z2⟩:=ax;subst z1 z2;exact hE
  ·exact LW c2 hE
end
section
variable{X:Cx}{f:Addr}{fd:FuncData}{ps:List Str}{x:Str}{p pos:Pos}{e:Expr}{es:List Expr}{ds:List D}{fn:FN}{k:Nat}
theorem zm(G:aP X.prog X.w X.K X.mg X.base (CX1 X.prog X.w) k f fd ps (spX X.K X.mg fn ps.length))(hr:eS k X.A)(hm:X.mg x=some (.ref f))(hk:PySem.W.keepIn X.K (.ref f)=true)(hb:Binds X.K fd ps [])(ha:CA X (e::es) ds)
  (hl:ds.length=ps.length:=by rfl) (hg:Gl X x:=by rfl) (hdb:(x==("__debug__":Str))=false:=by decide) (he:starEach (e::es) X.env=(false,eval e X.env)::starEach es X.env:=by rfl) (hpl:(backTo pos (starEach es X.env)).any (·.1)=false:=by rfl) :
  CE X (.Call (.Name x p) (e::es) [] pos) (aB fn ds):=by
 intro pins s σ H Q I ⟨F,α,e0,μ,S,h⟩
 refine wpAny_Call_Name_kw (pk I hg hm ?_ hdb)
 have hA:tDA X ds σ H (λvs H1=>∃F1 α1 μ1 xs,Ex F α H F1 α1 H1∧Sim X.K F1 α1 e0 μ1 σ H1∧Paired (λv x=>fB X.K F1 α1 v x) vs xs∧xs.length=ds.length∧(fn xs μ1).wp (Dv X.K F α H e0 σ Q) (fe X F α H e0)) :=
  ⟨F,α,e0,μ,S,(fC (R.wp_bind h)).mono (λxs μ1 ⟨hn,h⟩ vs H1 F1 α1 x1 S1 o1=>⟨F1,α1,μ1,xs,x1,S1,o1,hn,h⟩) λ_ _ h=>h⟩
 refine PySem.W.callWith_K (h₀:=X.base) I.ok.mod.kin hk (thn (ha pos pins s σ H _ I hA) λus s1 ⟨vs,H1,I1,r,F1,α1,μ1,xs,x1,S1,o1,hn,hw⟩=>⟨I1.kIn,?_⟩) he hpl
 have hlen:us.length=ps.length:=by rw[← r.length,o1.length,hn,hl]
 let E:XK:=λcv _ H'=>∃n C F' α' μ2,cv = .ref C∧X.mg n=some (.ref C)∧fn xs μ1 = .err (.exc n none) μ2∧Ex F1 α1 H1 F' α' H'∧dH X.K F' α' μ2 H'
 have hsp:spX X.K X.mg fn ps.length vs H1 Q E:=by
  refine⟨by rw[r.length,hlen],F1,α1,μ1,xs,S1.st,o1,?_⟩
  cases q:fn xs μ1 with
  | ok rr μ2=>rw[q] at hw;exact λv H2 F2 α2 x2 S2 o2=>hw v H2 F2 α2 (x1.trans x2) (S1.of x2.same x2.pre S2) o2
  | err c μ2=>exact λn C hc hmn H2 F2 α2 x2 S2=>⟨n,C,F2,α2,μ2,rfl,hmn,by rw[q,hc],x2,S2⟩
  | bad=>rw[q] at hw;exact hw.elim
 have hbn:=hb s1 us I1.kIn (by rw[List.append_nil];exact hlen)
 rw[List.append_nil] at hbn
 refine wpAny_call (codeAny_mono (G.run X.A X.stack s1 H1 ⟨us,[]⟩ us vs Q E hr I1.Ic hbn r hsp) λrr s' hq=>?_)
 cases rr with
 | error ev =>
  obtain⟨e',t,C,H',B,hev,hos,yN,U,hok,⟨n,C',F2,α2,μ2,hc,hmn,hfn,x2,S2⟩,fl,cov,rW⟩:=(show CX1 X.prog X.w X.stack H1 s1 E ev s' from hq)
  cases hc
  rw[hfn] at hw
  exact hw ev s' ⟨pins,σ,H',F2,α2,x1.trans x2,S1.of x2.same x2.pre S2,n,C,rfl,hmn,.inr (.inl ⟨H1,s1,I1,e',t,C,H',B,hev,hos,yN,U,hok,⟨rfl,rfl⟩,fl,cov,rW⟩)⟩
 | ok fl =>
  cases fl with
  | ret u=>exact I1.after hq
  | next=>exact False.elim hq
  | brk=>exact False.elim hq
  | cont=>exact False.elim hq
end
noncomputable abbrev Ci (X : Cx) (E : Value → Shared → Prop) (pn : List (Addr × Obj)) : Cx := { X with xe := E, pn := pn, calm := false }
section
variable{X:Cx}{pins:List (Addr×Obj)}{σ:L2.St}{H:Hp}{s:Shared}
theorem DH(I:Inv X pins σ H s)(E:Value→Shared→Prop):Inv (Ci X E (X.pn++pins)) [] σ H s :=
 ⟨⟨I.ok.mod,I.ok.kind,I.ok.glob,I.ok.blt,I.ok.above,I.ok.inj,I.ok.has,I.ok.cab,(λh=>by cases h),I.ok.frames,I.ok.stk,I.ok.exf,I.ok.bs,I.ok.bsz,I.ok.wO,I.ok.Ak,I.ok.oh,I.ok.frf⟩,I.os,I.bare,I.base,I.loc,I.cell,I.free,I.hU,
  λp hp=>I.pin p (by simpa using hp),I.hok,I.len⟩
theorem iy{E:Value→Shared→Prop}{yC:List (Addr×Obj)}(ok:X.Ok)(I:Inv (Ci X E (X.pn++pins)) yC σ H s):Inv X pins σ H s :=
 ⟨ok,I.os,I.bare,I.base,I.loc,I.cell,I.free,I.hU,λp hp=>I.pin p (List.mem_append_left _ hp),I.hok,I.len⟩
theorem AY{E:Value→Shared→Prop}{D:Ends}{f:Flow}(ok:X.Ok)(h:SP (Ci X E (X.pn++pins)) [] D f s):SP X pins D f s:=by
 cases f with
 | next=>obtain⟨σ',H',I,q⟩:=h;exact⟨σ',H',iy ok I,q⟩
 | brk=>obtain⟨σ',H',I,q⟩:=h;exact⟨σ',H',iy ok I,q⟩
 | cont=>obtain⟨σ',H',I,q⟩:=h;exact⟨σ',H',iy ok I,q⟩
 | ret u=>obtain⟨v,σ',H',I,r,q⟩:=h;exact⟨v,σ',H',iy ok I,r,q⟩
end
def CH(X:Cx)(hs:List ExceptHandler)(d:Str→DS):Prop:=∀(pins:List (Addr×Obj)) (σ:L2.St) (H:Hp) (e t C:Addr) (B:Heap) (s:Shared) (n:Str) (D:Ends) (F:Hp) (α:List Addr) (e':Slots) (μ':ag),
 Cau X pins σ H e t C B s→X.mg n=some (.ref C)→Sim X.K F α e' μ' σ H→bc X F α H D (d n e' μ')→wpAny (model X.prog X.w) X.A (handleBy (.ref e) X.env hs) (SP X pins D) X.xe s
theorem Ge{X:Cx}{body:List Stmt}{h₀:ExceptHandler}{hs:List ExceptHandler}{pos:Pos}{db:DS}{dh:Str→DS}(hst:X.stack=X.env::X.outer)(hf:X.env.frame=some X.env.locals)(hb:∀E pn,CSs (Ci X E pn) body db)(hh:CH X (h₀::hs) dh) :
  CS X (.Try body (h₀::hs) [] [] pos) (DG db dh):=by
 intro pins s σ H D I ⟨F,α,e,μ,S,h⟩
 have ok:=I.ok
 refine wpAny_Try_except ?_
 refine wpAny_mono (hb _ (X.pn++pins) [] s σ H D (DH I _) ⟨F,α,e,μ,S,?_⟩) (λf s₁ q=>?_) (λ_ _ z=>z)
 ·unfold DG at h
  cases q:db e μ with
  | nx e1 μ1=>rw[q] at h;exact h
  | rt y μ1=>rw[q] at h;exact h
  | bk e1 μ1=>rw[q] at h;exact h
  | ct e1 μ1=>rw[q] at h;exact h
  | bad=>rw[q] at h;exact h
  | err c e1 μ1 =>
   rw[q] at h
   rintro ev s' ⟨yC,σ',H',F',α',x1,S1,n,C,rfl,hm,Mf⟩
   rcases Mf with ⟨ko,_⟩|⟨H0,s2,I2,hx⟩|⟨ko,_⟩
   ·cases ko
   ·have I3:Inv X pins σ' H0 s2:=iy ok I2
    refine cau hst hf I3 hx λe2 t2 C2 H2 B h5 hev hE2 cc=>?_
    subst hev
    obtain⟨hc1,hc2⟩:=hE2
    cases hc1
    subst hc2
    exact hh pins σ' _ e2 t2 C B _ n D F' α' e1 μ1 cc hm S1 (bc.mono x1 h)
   ·cases ko
 ·have q:=AY ok q
  cases f with
  | next=>exact wpAny_execs_nil q
  | brk=>exact q
  | cont=>exact q
  | ret u=>exact q
end Fw
namespace L2
open PySem PySem.Spec PyProof.Rows
end L2
namespace Fw
open PySem L2 PyProof.Rows
def zo(K:PySem.W.Frag)(C:Addr):List Value:=match K.lookup C with
 | some ⟨_,_,.cls cd,_⟩=>cd.mro
 | _=>[]
structure AZ(K:PySem.W.Frag)(C:Addr):Prop where
 ex:∃bmB newId,PySem.W.excIn K C bmB newId=true∧bmB.contains (.type "BaseException")=true
theorem AZ.own{K:PySem.W.Frag}{C:Addr}{h:Heap}(o:AZ K C)(X:K.In h):∃bm,Fm h C bm∧zo K C = .ref C::bm:=by
 obtain⟨bmB,newId,q,hb⟩:=o.ex
 obtain⟨bm,N,nm,qn,bs,hdct,sn,sub,ab,col,dd,k0,k1,k2,k3,k5,mN,hC,hN,hni,T⟩:=(Fi (mg:=λ_=>some (.ref C)) (x:="") X rfl q).obj
 refine⟨bm,⟨nm,qn,N,bs,hdct,sn,sub,ab,col,dd,k0,k1,k2,k3,k5,newId,hC,T.hasType hb⟩,?_⟩
 unfold zo
 unfold PySem.W.excIn at q
 cases hl:K.lookup C with
 | none=>rw[hl] at q;cases q
 | some o =>
  have:=X _ _ hl
  rw[hC] at this
  cases this
  rfl
def CH1(X:Cx)(hs:List ExceptHandler)(n:Str)(d:DS):Prop:=∀(pins:List (Addr×Obj)) (σ:L2.St) (H:Hp) (e t C:Addr) (B:Heap) (s:Shared) (D:Ends) (F:Hp) (α:List Addr) (e':Slots) (μ':ag),
 Cau X pins σ H e t C B s→X.mg n=some (.ref C)→Sim X.K F α e' μ' σ H→bc X F α H D (d e' μ')→wpAny (model X.prog X.w) X.A (handleBy (.ref e) X.env hs) (SP X pins D) X.xe s
theorem CH.of{X:Cx}{hs:List ExceptHandler}{d:Str→DS}(h:∀n,CH1 X hs n (d n)):CH X hs d:=λpins σ H e t C B s n D F α e' μ' c hm S p=>h n pins σ H e t C B s D F α e' μ' c hm S p
theorem Jm{X:Cx}{hs:List ExceptHandler}{n:Str}:CH1 X hs n tL:=λpins σ H e t C B s D F α e' μ' c hm S p=>False.elim p
theorem wx{X:Cx}{ev:Value}{F H:Hp}{α:List Addr}{D:Ends}{d:DS}{e:Slots}{μ:ag}(h:bc X F α H D (kr d e μ)):bc (X.mark ev) F α H D (d e μ):=by
 unfold kr at h
 cases q:d e μ with
 | err c e1 μ1=>rw[q] at h;exact False.elim h
 | nx e1 μ1=>rw[q] at h;exact h
 | rt y μ1=>rw[q] at h;exact h
 | bk e1 μ1=>rw[q] at h;exact h
 | ct e1 μ1=>rw[q] at h;exact h
 | bad=>rw[q] at h;exact h
section
variable{X:Cx}{n x:Str}{C D:Addr}{np pos tp:Pos}{name:Option Str}{body tl:List Stmt}{b₀:Stmt}{rest:List ExceptHandler}{d:DS}
theorem in_of{pins:List (Addr×Obj)}{σ:L2.St}{H:Hp}{s:Shared}(I:Inv X pins σ H s):X.K.In s.heap:=by
 have e0:=I.Ic
 exact e0.mod.kin.keeps λb o e=>(e0.bs b o e).1
theorem Qt(hn:X.mg n=some (.ref C))(hC:AZ X.K C)(hm:X.mg x=some (.ref D))(hD:AZ X.K D)(zp:(zo X.K C).contains (.ref D)=true)(hp:∀ev,CSs (X.mark ev) (b₀::tl) d)(hg:Gl X x:=by rfl)(hd:(x==("__debug__":Str))=false:=by decide) :
  CH1 X (.ExceptHandler (some (.Name x np)) none (b₀::tl) pos::rest) n (kr d):=by
 intro pins σ H e t C' B s D' F α e' μ' c hm' S p
 rw[hn] at hm'
 cases hm'
 have KX:=in_of c.inv
 obtain⟨bm,oC,eC⟩:=hC.own KX
 obtain⟨bm',oD,_⟩:=hD.own KX
 refine v8 c oC ⟨bm',oD⟩ hg hm ?_ hd
 rw[eC] at zp
 rw[if_pos zp]
 exact AE (ts:=tDS X (kr d)) c (λev=>PSs.imp (hp ev) λD σ H ⟨F,α,e,μ,S,p⟩=>⟨F,α,e,μ,S,wx p⟩) ⟨F,α,e',μ',S,p⟩
theorem DJ(e:Slots)(i j:Nat):slot (e.set i none) j=if i=j then none else slot e j:=by
 unfold slot
 by_cases hj:i=j
 ·subst hj
  rw[if_pos rfl]
  by_cases hl:i<e.length
  ·rw[List.getElem?_set_self hl]
  ·rw[List.getElem?_eq_none (by rw[List.length_set];omega)]
 ·rw[if_neg hj,List.getElem?_set_ne hj]
theorem t8{K:PySem.W.Frag}{F H:Hp}{α:List Addr}{e:Slots}{μ:ag}{σ:L2.St}(i:Nat)(S:Sim K F α e μ σ H):Sim K F α (e.set i none) μ (σ.set i none) H:=by
 refine⟨S.st,λj x h=>?_,by rw[List.length_set,List.length_set];exact S.len⟩
 rw[DJ] at h
 by_cases hj:i=j
 ·rw[if_pos hj] at h;cases h
 ·rw[if_neg hj] at h
  obtain⟨v,h1,h2⟩:=S.sl j x h
  exact⟨v,by rw[List.getElem?_set_ne hj];exact h1,h2⟩
theorem Kr{i:Nat}{m:Str}(hst:X.stack=X.env::X.outer)(hf:X.env.frame=some X.env.locals)(hex:X.ex=[])(hN:X.N.Nodup)(hi:X.N[i]?=some m)(hk:X.env.scope.names.lookup m=some .local)
  (hn:X.mg n=some (.ref C)) (hns:PySem.W.nsIn X.K mainGlobals n=some (some (.ref C))) (hC:AZ X.K C) (hm:X.mg x=some (.ref D)) (hD:AZ X.K D) (zp:(zo X.K C).contains (.ref D)=true) (hp:∀ev,CSs (X.mark ev) (b₀::tl) d) (hg:Gl X x:=by rfl) (hd:(x==("__debug__":Str))=false:=by decide) :
  CH1 X (.ExceptHandler (some (.Name x np)) (some m) (b₀::tl) pos::rest) n (sAs i n d):=by
 intro pins σ H e t C' B s D' F α e' μ' c hm' S p
 rw[hn] at hm'
 cases hm'
 have KX:=in_of c.inv
 obtain⟨bm,oC,eC⟩:=hC.own KX
 obtain⟨bm',oD,_⟩:=hD.own KX
 refine v8 c oC ⟨bm',oD⟩ hg hm ?_ hd
 rw[eC] at zp
 rw[if_pos zp]
 refine Fo (φ:=ExcAt X.K e n none) (ts:=tDS X (kr d)) hst hf hex hN hi hk c (λh q=>⟨C,hns,q⟩) (λh1 h2 ⟨C1,q1,o,q2,q3⟩ k=>⟨C1,q1,o,k o q2,q3⟩) (λev=>PSs.imp (hp ev) λD σ H ⟨F,α,e,μ,S,p⟩=>⟨F,α,e,μ,S,wx p⟩) ?_
 have hHe:H e=none:=by
  cases q:H e with
  | none=>rfl
  | some o =>
   obtain⟨o',h1⟩:=c.cov e o q
   rw[c.fly.2.1] at h1
   cases h1
 have g:bX F H (upd F e (.ext (ExcAt X.K e n none))) (upd H e (.ext (ExcAt X.K e n none))):=bX.new hHe
 refine⟨_,α,e'.set i (some (.val (.exc n none))),μ',(S.grow g).set (x:=.val (.exc n none)) (v:=.ref e) ?_,?_⟩
 ·exact⟨e,rfl,aV⟩
 ·have p:=bc.mono (g.ex S.st.ext) p
  unfold sAs at p
  cases q:kr d (e'.set i (some (.val (.exc n none)))) μ' with
  | nx e1 μ1=>rw[q] at p;exact λσ1 H1 F1 α1 x1 S1=>p _ H1 F1 α1 x1 (t8 i S1)
  | bk e1 μ1=>rw[q] at p;exact λσ1 H1 F1 α1 x1 S1=>p _ H1 F1 α1 x1 (t8 i S1)
  | ct e1 μ1=>rw[q] at p;exact λσ1 H1 F1 α1 x1 S1=>p _ H1 F1 α1 x1 (t8 i S1)
  | rt y μ1=>rw[q] at p;exact p
  | err c1 e1 μ1=>rw[q] at p;exact p
  | bad=>rw[q] at p;exact p
end
end Fw
namespace L2
open PySem PySem.Spec PySem.Calls PySem.W PyProof.Rows Builtin Builtin.ObjectAttr Builtin.Getset_descriptor
section
variable{prog:Program}{w:World}{A:Around}{E:Value→Shared→Prop}{s:Shared}{K:Frag}{x C:Addr}
theorem iz{M:Model}{h:Heap}(hx:j0 x C h):Looks M h (typeOf (.ref x)) (.ref C):=by
 obtain⟨o,h1,h2⟩:=hx
 exact h2 ▸ (Looks.ld h1).andThen .now
theorem Jn{R:Result→Shared→Prop}{tp:Value}(X:K.In s.heap)(hx:j0 x C s.heap)(hm:mroIn K C (.type "object")=some true)(h:R (.ok (.ret (.ref C))) s) :
  codeAny (model prog w) A (.call (.builtin "getset_descriptor.__get__") ⟨[.builtin "object.__class__",.ref x,tp],[]⟩) R s:=by
 have T:=iz (M:=model prog w) hx
 have O:=looks_mroIn (M:=model prog w) X hm
 obtain⟨hh,g,dr,t,os⟩:=s
 refine codeAny_call_builtin KF.slot_gs.plain KF.entry_gs (KF.slot_gs.check _ _ _ _ _ _ _ _ KF.type_class (KF.args_gs _ _ _) ?_)
 unfold Builtin.«getset_descriptor.__get__» descrGet
 rw[dga_obj]
 refine wpAny_bind (wpAny_pure ?_)
 unfold descrGetter descrCheckInstance descrNameAndClass isInstance
 simp only[KF.owner_class]
 repeat lk
 refine⟨Code.quiet_builtin _ (by decide +kernel),codeAny_builtin KF.entry_class ?_⟩
 unfold Builtin.«object.__class__» shownTypeOf
 repeat lk
 exact h
theorem Gg{M:Model}{h:Heap}{v:Value}(X:K.In h)(ha:findIn K (.ref C) "__class__"=some (some (.builtin "object.__class__")))(hn:specialIn K (.builtin "object.__class__") "__get__"=some (some (.builtin "getset_descriptor.__get__")))(htk:takesIn K (.builtin "object.__class__")=some true) :
  Looks M h (find v (.ref C) "__class__") (.bind (.builtin "getset_descriptor.__get__") (.builtin "object.__class__")):=by
 have l1:=looks_findIn (M:=M) X ha
 have l2:Looks M h (getOf (some (.builtin "object.__class__"))) (some (.builtin "getset_descriptor.__get__")):=looks_specialIn X hn
 have l3:Looks M h (dataDescriptor? (some (.builtin "object.__class__")) (some (.builtin "getset_descriptor.__get__"))) (some (.builtin "getset_descriptor.__get__",.builtin "object.__class__")):=(looks_takesIn (M:=M) X htk).andThen .now
 exact l1.andThen (l2.andThen (l3.andThen (Looks.tag .now)))
structure KGet(K:Frag)(C:Addr):Prop where
 ga:findIn K (.ref C) "__getattribute__"=some (some (.builtin "BaseException.__getattribute__"))
 gn:findIn K (.ref C) "__getattr__"=some none
 a:findIn K (.ref C) "__class__"=some (some (.builtin "object.__class__"))
 n:specialIn K (.builtin "object.__class__") "__get__"=some (some (.builtin "getset_descriptor.__get__"))
 t:takesIn K (.builtin "object.__class__")=some true
 m:mroIn K C (.type "object")=some true
 mb:mroIn K C (.type "BaseException")=some true
theorem DK{tk:Tok}{Q:Unit→Shared→Prop}(k:KGet K C)(X:K.In s.heap)(hx:j0 x C s.heap)(h:Q () s):wpAny (model prog w) A (checkBuiltinCall "BaseException.__getattribute__" ⟨[.ref x,.str "__class__" tk],[]⟩) Q E s:=by
 have T:=iz (M:=model prog w) hx
 have O:=looks_mroIn (M:=model prog w) X k.mb
 have hk:builtinKind "BaseException.__getattribute__"=some .slot:=by decide +kernel
 have Mg:splitId "BaseException.__getattribute__"=some ("BaseException","__getattribute__"):=by decide +kernel
 have ha:=F.args_bexc_ga (.ref x) (.str "__class__" tk)
 obtain⟨hh,g,dr,t,os⟩:=s
 simp only[checkBuiltinCall,hk,Mg]
 refine wpAny_bind ?_
 unfold isInstance
 repeat lk
 repeat (any_goals (first|assumption|wp_step))
theorem DL{tk:Tok}{R:Result→Shared→Prop}(k:KGet K C)(X:K.In s.heap)(hx:j0 x C s.heap)(h:R (.ok (.ret (.ref C))) s) :
  codeAny (model prog w) A (.call (.builtin "BaseException.__getattribute__") ⟨[.ref x,.str "__class__" tk],[]⟩) R s:=by
 have T:=iz (M:=model prog w) hx
 have Fd:=Gg (M:=model prog w) (v:=.ref x) X k.a k.n k.t
 have go:∀A',codeAny (model prog w) A' (.call (.builtin "getset_descriptor.__get__") ⟨[.builtin "object.__class__",.ref x,.ref C],[]⟩) (λr s'=>match r with | .ok (.ret v)=>v = .ref C∧s'=s|_=>False) s :=
  λA'=>Jn (s:=s) X hx k.m ⟨rfl,rfl⟩
 refine codeAny_call_builtin F.attrBase_ValueError.ga.plain F.entry_bexc_ga (DK k X hx ?_)
 obtain⟨hh,g,d,t,os⟩:=s
 unfold Builtin.«object.__getattribute__»
 refine wpAny_bind (wpAny_pure ?_)
 refine wpAny_bind (wpAny_pure ?_)
 refine wpAny_bind (T.at (wpAny_bind (Fd.at ?_)))
 show wpAny _ _ (holding [_] (call _ [_,.ref x,.ref C])>>=ret) _ _ _
 refine wpAny_bind (wpAny_holding (wpAny_call (codeAny_mono (go _) λr s' q=>?_)))
 match r,q with
 | .ok (.ret v),q =>
  obtain⟨rfl,rfl⟩:=q
  exact wpAny_pure h
theorem DM{Q:Option Value→Shared→Prop}(k:KGet K C)(X:K.In s.heap)(hx:j0 x C s.heap)(h:Q (some (.ref C)) { s with toks:=s.toks+1 }):wpAny (model prog w) A (getAttr? (.ref x) "__class__") Q E s:=by
 have T:=iz (M:=model prog w) hx
 have G:=looks_findIn (M:=model prog w) X k.ga
 have N:=looks_findIn (M:=model prog w) X k.gn
 have go:∀A',codeAny (model prog w) A' (.call (.builtin "BaseException.__getattribute__") ⟨[.ref x,.str "__class__" s.toks],[]⟩) (λr s'=>match r with | .ok (.ret v)=>v = .ref C∧s'={ s with toks:=s.toks+1 }|_=>False) { s with toks:=s.toks+1 } :=
  λA'=>DL (s:={ s with toks:=s.toks+1 }) k X hx ⟨rfl,rfl⟩
 obtain⟨hh,g,d,t,os⟩:=s
 unfold getAttr? getAttrBy? getAttrBy
 refine wpAny_bind (wpAny_mkText (wpAny_bind (wpAny_attempt (wpAny_holding (wpAny_bind (T.at (wpAny_bind (G.at ?_))))))))
 show wpAny _ _ (getAttrByItsOwn _ _ _ _ _ _) _ _ _
 unfold getAttrByItsOwn hookBefore callGetattribute boundAndCalled
 refine wpAny_bind (N.at ?_)
 refine wpAny_bind (wpAny_attempt (wpAny_holding ?_))
 show wpAny _ _ (bindSpecial (.builtin "BaseException.__getattribute__") (.ref x)>>=_) _ _ _
 refine wpAny_bind (wpAny_of_eq (F.attrBase_ValueError.ga.bind _) ?_)
 refine wpAny_call (codeAny_mono (go _) λr s' q=>?_)
 match r,q with
 | .ok (.ret v),q =>
  obtain⟨rfl,rfl⟩:=q
  exact handed_on rfl (wpAny_pure h)
structure Jo(K:Frag)(C:Addr):Prop extends KGet K C where
 cl:(clsIn K C).isSome=true
theorem zq{h:Heap}(k:Jo K C)(X:K.In h):∃c d cd sl,h.get? C=some ⟨c,d,.cls cd,sl⟩:=by
 obtain⟨cd,hc⟩:=Option.isSome_iff_exists.mp k.cl
 unfold clsIn at hc
 split at hc
 ·rename_i c' d' cd' sl' ho
  exact⟨_,_,_,_,X _ _ ho⟩
 ·cases hc
theorem t9(k:Jo K C):KitX K (.ref x) (.ref C) (j0 x C) where
 ty:=λ_ _ _ hx=>iz hx
 it:=λ_ _ X _=>by
  obtain⟨c,d,cd,sl,ho⟩:=zq k X
  intro A' Q' E' s' kk q
  unfold isType loadHead
  exact wpAny_bind (wpAny_loadPart (kk _ _ ho) (wpAny_pure q))
 ne:=λh tp dd its n sl X htp=>by
  obtain⟨c,d,cd,sl',ho⟩:=zq k X
  refine Bool.eq_false_iff.mpr λq=>?_
  have e:C=tp:=Value.ref.inj (beq_iff_eq.mp q)
  subst e
  rw[ho] at htp
  cases htp
 ca:=λX hx h=>DM k.toKGet X hx h
end
end L2
namespace Fw
open PySem L2 PyProof.Rows
structure KCls(K:PySem.W.Frag)(n:Str)(C:Addr):Prop where
 ns:PySem.W.nsIn K mainGlobals n=some (some (.ref C))
 ke:Jo K C
def Mh(X:Cx)(c:V)(r:Addr→Option Bool):List V→Hp→VK→Prop:=λxs H Q=>∃a n C b,xs=[.ref a,c]∧H a=some (.ext (ExcAt X.K a n none))∧KCls X.K n C∧r C=some b∧Q (.bl b) H
def Q3(X:Cx)(r:Addr→List Addr→Option Bool):List V→Hp→VK→Prop:=λxs H Q=>∃a p Ds n C b,xs=[.ref a,.ref p]∧H a=some (.ext (ExcAt X.K a n none))∧H p=some (.tup (Ds.map V.ref))∧KCls X.K n C∧r C Ds=some b∧Q (.bl b) H
section
variable{X:Cx}{D:Addr}{Tn:String}{x:Str}{p p2 pos:Pos}{a:Expr}{da:Fw.D}{f:Str→Option Bool}
theorem A0{pins:List (Addr×Obj)}{σ:L2.St}{H:Hp}{s:Shared}{a C:Addr}{n:Str}(I:Inv X pins σ H s)(hH:H a=some (.ext (ExcAt X.K a n none)))(k:KCls X.K n C):j0 a C s.heap:=by
 obtain⟨⟨C',OM,hx⟩,_,_⟩:=(show dI X.prog X.w H s.heap a (.ext (ExcAt X.K a n none)) from I.hok a _ hH)
 rw[k.ns] at OM
 cases OM
 exact hx
theorem Gh:fL X (.builtin "isinstance") (Mh X (.ref D) λC=>PySem.W.kitOne X.K (.ref C) (.ref D)):=by
 intro pins s σ H xs us Q I r h
 obtain⟨a,n,C,b,rfl,hH,k,hb,q⟩:=h
 obtain⟨u1,u2,rfl,r1,r2⟩:=vals2 r
 cases r1
 cases r2
 exact PySem.W.kia_one (t9 k.ke) (in_of I) (A0 I hH k) hb (λz=>nomatch z) λtk=>⟨.bl b,H,I.tok _,rfl,q⟩
theorem DN:fL X (.builtin "isinstance") (Mh X (.ty Tn) λC=>PySem.W.kitOne X.K (.ref C) (.type Tn)):=by
 intro pins s σ H xs us Q I r h
 obtain⟨a,n,C,b,rfl,hH,k,hb,q⟩:=h
 obtain⟨u1,u2,rfl,r1,r2⟩:=vals2 r
 cases r1
 have r2:u2=Value.type Tn:=r2
 subst r2
 exact PySem.W.kia_one (t9 k.ke) (in_of I) (A0 I hH k) hb (λz=>nomatch z) λtk=>⟨.bl b,H,I.tok _,rfl,q⟩
theorem wy:∀{Ds:List Addr}{us:List Value},Vals (Ds.map V.ref) us→us=Ds.map Value.ref
 | [],us,r=>by cases r;rfl
 | D::Ds,us,r=>by
  cases r with
  | cons h r=>cases h;rw[wy r];rfl
theorem Gi:fL X (.builtin "isinstance") (Q3 X λC Ds=>PySem.W.kitAny X.K (.ref C) (Ds.map Value.ref)):=by
 intro pins s σ H xs us Q I r h
 obtain⟨a,p,Ds,n,C,b,rfl,hH,hp,k,hb,q⟩:=h
 obtain⟨u1,u2,rfl,r1,r2⟩:=vals2 r
 cases r1
 cases r2
 obtain⟨_,ws,rr,⟨o,ho,hc,nn,hd⟩⟩:=(show dI X.prog X.w H s.heap p (.tup (Ds.map V.ref)) from I.hok p _ hp)
 have ew:=wy rr
 subst ew
 obtain⟨cl,dd,dt,sl⟩:=o
 simp only at hc hd
 subst hc hd
 exact PySem.W.kia_tup (t9 k.ke) (in_of I) (A0 I hH k) ho hb (λz=>nomatch z) λtk=>⟨.bl b,H,I.tok _,rfl,q⟩
theorem zr{σ:L2.St}{H:Hp}{Q:VK}{c:V}{r:Addr→Option Bool}(hf:∀n b,f n=some b→∃C,KCls X.K n C∧r C=some b)(h:tD X (qy f da) σ H Q) :
  BN (tD X da) (BN (tC c) Ly) σ H λvs H1=>Mh X c r vs H1 Q:=by
 obtain⟨F,α,e,μ,S,h⟩:=h
 refine⟨F,α,e,μ,S,(R.wp_bind h).mono (λx μ1 h v H1 F1 α1 x1 S1 o1=>?_) λ_ _ h=>h⟩
 match x,h with
 | .val (.exc n none),h =>
  have h:(match f n with|some b=>R.ok (SV.val (T.bl b)) μ1|none=>R.bad).wp (Dv X.K F α H e σ Q) (fe X F α H e):=h
  cases hn:f n with
  | some b =>
   rw[hn] at h
   obtain⟨C,h1,h2⟩:=hf n b hn
   obtain⟨a,rfl,hF⟩:=(show ∃a,v = .ref a∧F1 a=some (.ext (ExcAt X.K a n none)) from o1)
   exact⟨a,n,C,b,rfl,S1.st.ext a _ hF,h1,h2,h _ H1 F1 α1 x1 S1 (Rep.bl' (K:=X.K) (F:=F1) b)⟩
  | none=>rw[hn] at h;exact h.elim
 | .val (.exc n (some t)),h=>exact h.elim
 | .val .non,h=>exact h.elim
 | .val (.bl b),h=>exact h.elim
 | .val (.int i),h=>exact h.elim
 | .val (.str y),h=>exact h.elim
 | .val (.lst y),h=>exact h.elim
 | .val (.tup y),h=>exact h.elim
 | .val (.dct y),h=>exact h.elim
 | .cel k,h=>exact h.elim
 | .box y,h=>exact h.elim
theorem Mi(hi:X.mg "isinstance"=none)(hm:X.mg x=some (.ref D))(hf:∀n b,f n=some b→∃C,KCls X.K n C∧PySem.W.kitOne X.K (.ref C) (.ref D)=some b)(ha:CE X a da)(hg1:Gl X "isinstance":=by rfl)(hg:Gl X x:=by rfl)(hd:(x==("__debug__":Str))=false:=by decide)
  (hs1:starEach [a,.Name x p2] X.env=(false,eval a X.env)::starEach [.Name x p2] X.env:=by rfl) (hs2:starEach [.Name x p2] X.env=(false,eval (.Name x p2) X.env)::starEach [] X.env:=by rfl) (hpl:(backTo pos (starEach [.Name x p2] X.env)).any (·.1)=false:=by rfl) :
  CE X (.Call (.Name "isinstance" p) [a,.Name x p2] [] pos) (qy f da) :=
 PE.imp (kb Gh hg1 hi PyProof.Rows.boot_isinstance (ia ha (ia (BI (v:=.ref D) hg hm rfl hd) qj hs2) hs1) (by decide) (by decide) hs1 hpl) λσ H Q h=>zr hf h
theorem Jp(hi:X.mg "isinstance"=none)(hm:X.mg x=none)(hv:bootBuiltins x=some (.type Tn))(hf:∀n b,f n=some b→∃C,KCls X.K n C∧PySem.W.kitOne X.K (.ref C) (.type Tn)=some b)(ha:CE X a da)(hg1:Gl X "isinstance":=by rfl)(hg:Gl X x:=by rfl)(hn:x≠"__name__":=by decide)(hd:(x==("__debug__":Str))=false:=by decide)
  (hs1:starEach [a,.Name x p2] X.env=(false,eval a X.env)::starEach [.Name x p2] X.env:=by rfl) (hs2:starEach [.Name x p2] X.env=(false,eval (.Name x p2) X.env)::starEach [] X.env:=by rfl) (hpl:(backTo pos (starEach [.Name x p2] X.env)).any (·.1)=false:=by rfl) :
  CE X (.Call (.Name "isinstance" p) [a,.Name x p2] [] pos) (qy f da) :=
 PE.imp (kb DN hg1 hi PyProof.Rows.boot_isinstance (ia ha (ia (BJ (v:=.ty Tn) hg hm hv rfl hn hd) qj hs2) hs1) (by decide) (by decide) hs1 hpl) λσ H Q h=>zr hf h
def Mj:List NmD→TA
 | []=>Ly
 | n::ns=>BN (tC (.ref n.2.2)) (Mj ns)
theorem zt:∀(ns:List NmD),(∀n∈ns,Ov X n)→PA X (ns.map nmE) (Mj ns)
 | [],_=>qj
 | n::ns,ok=>ia (BI (v:=.ref n.2.2) (ok n (.head _)).g (ok n (.head _)).m rfl (ok n (.head _)).d) (zt ns λm h=>ok m (.tail _ h)) rfl
theorem wz:∀(ns:List NmD) {σ:L2.St}{H:Hp}{Q:List V→Hp→Prop},Q (ns.map λn=>V.ref n.2.2) H→Mj ns σ H Q
 | [],σ,H,Q,h=>h
 | n::ns,σ,H,Q,h=>wz ns (Q:=λxs H2=>Q (.ref n.2.2::xs) H2) h
theorem Jq{x1}{tp:Pos}(ns:List NmD)(hi:X.mg "isinstance"=none)(ok:∀n∈ns,Ov X n)(hl:ns.length≤1000)(hf:∀n b,f n=some b→∃C,KCls X.K n C∧PySem.W.kitAny X.K (.ref C) (ns.map λn => .ref n.2.2)=some b)(ha:CE X a da)(hg1:Gl X "isinstance":=by rfl)
  (hs1:starEach [a,.Tuple (ns.map nmE) x1 tp] X.env=(false,eval a X.env)::starEach [.Tuple (ns.map nmE) x1 tp] X.env:=by rfl) (hs2:starEach [.Tuple (ns.map nmE) x1 tp] X.env=(false,eval (.Tuple (ns.map nmE) x1 tp) X.env)::starEach [] X.env:=by rfl) (hpl:(backTo pos (starEach [.Tuple (ns.map nmE) x1 tp] X.env)).any (·.1)=false:=by rfl) :
  CE X (.Call (.Name "isinstance" p) [a,.Tuple (ns.map nmE) x1 tp] [] pos) (qy f da) :=
 PE.imp (kb Gi hg1 hi PyProof.Rows.boot_isinstance (ia ha (ia (As (zt ns ok)) qj hs2) hs1) (by decide) (by decide) hs1 hpl) λσ H Q ax=>by
  obtain⟨F,α,e,μ,S,h⟩:=ax
  refine⟨F,α,e,μ,S,(R.wp_bind h).mono (λx μ1 h v H1 F1 α1 x1 S1 o1=>?_) λ_ _ h=>h⟩
  refine wz ns ⟨by rw[List.length_map];exact Nat.le_of_lt (v7 hl),λq hq=>?_⟩
  match x,h with
  | .val (.exc n none),h =>
   have h:(match f n with|some b=>R.ok (SV.val (T.bl b)) μ1|none=>R.bad).wp (Dv X.K F α H e σ Q) (fe X F α H e):=h
   cases hn:f n with
   | some b =>
    rw[hn] at h
    obtain⟨C,h1,h2⟩:=hf n b hn
    obtain⟨a,rfl,hF⟩:=(show ∃a,v = .ref a∧F1 a=some (.ext (ExcAt X.K a n none)) from o1)
    have hH:=S1.st.ext a _ hF
    have hne:a≠q:=λz=>by rw[← z,hH] at hq;cases hq
    have g:bX F1 H1 (upd F1 q (.tup (ns.map λn=>V.ref n.2.2))) (upd H1 q (.tup (ns.map λn=>V.ref n.2.2))):=bX.new hq
    refine⟨a,q,ns.map λn=>n.2.2,n,C,b,rfl,by rw[aQ hne];exact hH,by rw[aV,List.map_map];rfl,h1,by show PySem.W.kitAny X.K (.ref C) ((ns.map λn=>n.2.2).map Value.ref)=some b;rw[List.map_map];exact h2,?_⟩
    exact h _ _ _ α1 (x1.trans (g.ex S1.st.ext)) (S1.grow g) (Rep.bl' (K:=X.K) (F:=upd F1 q (.tup (ns.map λn=>V.ref n.2.2))) b)
   | none=>rw[hn] at h;exact h.elim
  | .val (.exc n (some t)),h=>exact h.elim
  | .val .non,h=>exact h.elim
  | .val (.bl b),h=>exact h.elim
  | .val (.int i),h=>exact h.elim
  | .val (.str y),h=>exact h.elim
  | .val (.lst y),h=>exact h.elim
  | .val (.tup y),h=>exact h.elim
  | .val (.dct y),h=>exact h.elim
  | .cel k,h=>exact h.elim
  | .box y,h=>exact h.elim
end
end Fw
namespace Fw.H
open PySem Fw
def lQ(p:Int):Prop:=p∈([2,3,5,7,11,13,17,19,23,29,31,37,41,43,47,53,59,61,67,71,73,79,83,89,97]:List Int)
theorem lQ.pos{p:Int}(h:lQ p):2≤p∧p≤97:=by
 have key:∀p∈([2,3,5,7,11,13,17,19,23,29,31,37,41,43,47,53,59,61,67,71,73,79,83,89,97]:List Int),2≤p∧p≤97:=by decide +kernel
 exact key p h
end Fw.H
namespace Fw
open PySem PySem.Spec PyProof.Rows L2
structure Gf(K:PySem.W.Frag)(mg:Str→Option Value)(x:Str)(st:Stmt)(ps:List Str)(f:Addr)(fd:FuncData):Prop where
 F:Fun K x x st f fd
 b:Binds K fd ps []
 m:mg x=some (.ref f)
def ju(scope so:Scope):Scope:={ scope with names:=scope.names.map λ(n,k)=>if (k == .free && so.kind == .function && so.names.lookup n==some .cell) then (n,.cell) else (n,k) }
def xo(N N':List Str)(scope so:Scope)(mp:List (Option Nat)):Prop :=
 scope.kind = .function∧(scope.names.filter λy=>y.2==NameKind.cell).length≤1∧(scope.names.map (·.1)).Nodup∧(∀y∈scope.names,(y.2 = .local→scope.names.lookup y.1=some .local)∧(y.2 = .free→(so.names.lookup y.1=some .cell∨so.names.lookup y.1=some .free) ∧
  ((ju scope so).names.lookup y.1=some .cell∨(ju scope so).names.lookup y.1=some .free)))∧mp.length=N'.length ∧
 ∀q∈mp.zip N',match q.1 with
  | none=>True
  | some j=>N[j]?=some q.2∧(q.2,NameKind.free)∈scope.names∧(so.names.lookup q.2=some .cell∨so.names.lookup q.2=some .free)
noncomputable instance (N N' : List Str) (scope so : Scope) (mp : List (Option Nat)) : Decidable (xo N N' scope so mp) := by
 unfold xo
 have:∀q:Option Nat×Str,Decidable (match q.1 with
  | none=>True
  | some j=>N[j]?=some q.2∧(q.2,NameKind.free)∈scope.names∧(so.names.lookup q.2=some .cell∨so.names.lookup q.2=some .free)):=λq=>by
  cases q.1<;>infer_instance
 infer_instance
theorem nY{α:Type}{x:Str}{k:α}:∀{l:List (Str×α)},(l.map (·.1)).Nodup→(x,k)∈l→l.lookup x=some k
 | [],_,h=>by cases h
 | (y,k')::l,nd,h=>by
  have nd':=List.nodup_cons.mp (by simpa using nd:(y::l.map (·.1)).Nodup)
  rw[List.lookup_cons]
  rcases List.mem_cons.mp h with e|h
  ·cases e;simp
  ·have:(x==y)=false:=by
    have:x≠y:=λq=>nd'.1 (List.mem_map.mpr ⟨_,h,q⟩)
    simpa using this
   rw[this]
   exact nY nd'.2 h
theorem aG{X:Cx}{N':List Str}{scope:Scope}{mp:List (Option Nat)}(so:Scope)(hso:X.env.scope=so)(N:List Str)(hN:X.N=N)(h:xo N N' scope so mp):gB X N' scope mp:=by
 subst hso
 subst hN
 obtain⟨h1,hc1,hnd,h2,h3,h4⟩:=h
 have er:(relabel scope X.env).names=(ju scope X.env.scope).names:=rfl
 refine⟨h1,hc1,hnd,λy hy=>(h2 y hy).1,λy hy hf=>((h2 y hy).2 hf).1,h3,λi j hij=>?_,λx hx=>?_,λx hx=>?_⟩
 ·have hi:i<mp.length:=(List.getElem?_eq_some_iff.mp hij).1
  have hz:(mp.zip N')[i]?=some (some j,N'[i]'(by omega)):=by
   rw[List.getElem?_zip_eq_some]
   exact⟨hij,by simp⟩
  have:=h4 _ (List.mem_of_getElem? hz)
  exact⟨_,by simp,this⟩
 ·rw[er];exact ((h2 _ hx).2 rfl).2
 ·rw[er] at hx
  have mem:∀k,(ju scope X.env.scope).names.lookup x=some k→(k = .cell∨k = .free)→(x,NameKind.free)∈scope.names∨scope.names.lookup x=some .cell:=λk hk hkk=>by
   have hm:=PySem.mem_of_lookup hk
   unfold ju at hm
   obtain⟨⟨n,k'⟩,hm1,hm2⟩:=List.mem_map.mp hm
   by_cases hc:(k' == .free && X.env.scope.kind == .function && X.env.scope.names.lookup n==some .cell)=true
   ·simp only[hc,if_true] at hm2
    cases hm2
    have:k' = .free:=by
     simp only[Bool.and_eq_true,beq_iff_eq] at hc
     exact hc.1.1
    subst this
    exact .inl hm1
   ·simp only[hc,if_false] at hm2
    cases hm2
    rcases hkk with rfl|rfl
    ·exact .inr (nY hnd hm1)
    ·exact .inl hm1
  rcases hx with hx|hx
  ·exact mem _ hx (.inl rfl)
  ·exact mem _ hx (.inr rfl)
theorem t_{X0:Cx}{N' N2:List Str}{scope Gj:Scope}{cl:List (Str×Addr)}{C:Addr}{s₀:Shared}{H₀:Hp}{ex:List Addr}{mp:List (Option Nat)}(so:Scope)(hso:X0.env.scope=so)(h:xo N' N2 Gj (ju scope so) mp) :
  gB (cN X0 N' scope cl C s₀ H₀ ex) N2 Gj mp:=aG (ju scope so) (by subst hso;rfl) N' rfl h
theorem Mk{K:PySem.W.Frag}{fn:FN}{H:Hp}{a:Addr}{ns:List Int}(Ml:∀ns:List Int,ns.length≤63→∃μ',fn [.val (.lst (ns.map T.int))] [] = .ok (.val (.bl true)) μ')(hl:ns.length≤63)(hS:SqL K H a (ns.map V.int)) :
  spD K fn 1 [.ref a] H (λv _=>v = .bl true) (λ_ _ _=>False):=by
 obtain⟨μ',h⟩:=Ml ns hl
 refine⟨rfl,H,[],[],_,_,μ',⟨aX.refl _,rfl,List.nodup_nil,λk a h=>by simp at h,λk b t a h=>by simp at h⟩,.cons ?_ .nil,h,λv H' F' α' _ _ o=>Rep.jr (K:=K) (F:=F') o⟩
 show Rep K H (.lst (ns.map T.int)) (.ref a)
 rw[Rep]
 exact⟨a,_,rfl,hS,aI.B8 ns⟩
section
variable{K:PySem.W.Frag}
theorem Now.qA{F H:Hp}{v:V}{ts:List T}(h:Now K F H v (.lst ts)):∃a vs,v = .ref a∧SqL K H a vs∧aI K F ts vs:=h
theorem Now.vj{F H:Hp}{v:V}{ts:List T}(h:Now K F H v (.tup ts)):∃a vs,v = .ref a∧SqT K F a vs∧aI K F ts vs:=h
theorem kU{r:R2}{f:T→T→Option T}(g:Int→Int→T)(gV:Int→Int→V)(C:Int→Int→Prop)(hr:∀i j H Q,C i j→Q (gV i j) H→r (.int i) (.int j) H Q)
  (hf:∀t u w,f t u=some w→∃i j,t = .int i∧u = .int j∧w=g i j∧C i j) (hg:∀F i j,Rep K F (g i j) (gV i j)):fN K r f:=by
 intro F H v u t t' w Q s hv hu hw q
 obtain⟨i,j,rfl,rfl,rfl,hc⟩:=hf _ _ _ hw
 cases hv.int
 cases hu.int
 exact hr i j H Q hc (q _ H F bX.refl (hg F i j))
theorem Jr:fN K (rI0 λi j => .int (i-j)) vf:=kU (λi j => .int (i-j)) (λi j => .int (i-j)) (λ_ _=>True) (λi j H Q _ q=>⟨i,j,rfl,rfl,q⟩)
 (λt u w h=>by cases t<;>cases u<;>first|(cases h;exact⟨_,_,rfl,rfl,rfl,trivial⟩)|cases h) λF i j=>Rep.jJ _
theorem Js:fN K (rI (λ_ j=>0<j) λi j => .int (i%j)) aL:=kU (λi j => .int (i%j)) (λi j => .int (i%j)) (λ_ j=>0<j) (λi j H Q c q=>⟨i,j,rfl,rfl,c,q⟩)
 (λt u w h=>by
  cases t<;>cases u<;>first|cases h|skip
  rename_i i j
  by_cases hj:0<j
  ·have h:(if 0<j then some (T.int (i%j)) else none)=some w:=h
   rw[if_pos hj] at h
   cases h
   exact⟨_,_,rfl,rfl,rfl,hj⟩
  ·have h:(if 0<j then some (T.int (i%j)) else none)=some w:=h
   rw[if_neg hj] at h;cases h) λF i j=>Rep.jJ _
theorem Jt:fN K (rI Lm λi j => .int (i / j)) d_:=kU (λi j => .int (i / j)) (λi j => .int (i / j)) Lm (λi j H Q c q=>⟨i,j,rfl,rfl,c,q⟩)
 (λt u w h=>by
  cases t<;>cases u<;>first|cases h|skip
  rename_i i j
  have h:(if 0<j∧j<1073741824 then some (T.int (i / j)) else none)=some w:=h
  by_cases hj:0<j∧j<1073741824
  ·rw[if_pos hj] at h
   cases h
   exact⟨_,_,rfl,rfl,rfl,hj⟩
  ·rw[if_neg hj] at h;cases h) λF i j=>Rep.jJ _
theorem Ju:fN K (rI Ln λi j => .int (i ^ j.toNat)) IG:=kU (λi j => .int (i ^ j.toNat)) (λi j => .int (i ^ j.toNat)) Ln (λi j H Q c q=>⟨i,j,rfl,rfl,c,q⟩)
 (λt u w h=>by
  cases t<;>cases u<;>first|cases h|skip
  rename_i i j
  have h:(if 0≤j∧j≤1000 ∧ -(2 ^ 64)<i∧i<2 ^ 64 then some (T.int (i ^ j.toNat)) else none)=some w:=h
  by_cases hj:0≤j∧j≤1000 ∧ -(2 ^ 64)<i∧i<2 ^ 64
  ·rw[if_pos hj] at h
   cases h
   exact⟨_,_,rfl,rfl,rfl,hj.1,by omega,by omega⟩
  ·rw[if_neg hj] at h;cases h) λF i j=>Rep.jJ _
theorem Jv:fN K (rI (λ_ j=>0≤j) λi j => .int (i / 2 ^ j.toNat)) Dm:=kU (λi j => .int (i / 2 ^ j.toNat)) (λi j => .int (i / 2 ^ j.toNat)) (λ_ j=>0≤j) (λi j H Q c q=>⟨i,j,rfl,rfl,c,q⟩)
 (λt u w h=>by
  cases t<;>cases u<;>first|cases h|skip
  rename_i i j
  have h:(if 0≤j∧j≤64 then some (T.int (i / 2 ^ j.toNat)) else none)=some w:=h
  by_cases hj:0≤j∧j≤64
  ·rw[if_pos hj] at h
   cases h
   exact⟨_,_,rfl,rfl,rfl,hj.1⟩
  ·rw[if_neg hj] at h;cases h) λF i j=>Rep.jJ _
theorem Gk:fN K (rI0 λi j => .bl (decide (i<j))) fLt:=kU (λi j => .bl (decide (i<j))) (λi j => .bl (decide (i<j))) (λ_ _=>True) (λi j H Q _ q=>⟨i,j,rfl,rfl,q⟩)
 (λt u w h=>by cases t<;>cases u<;>first|(cases h;exact⟨_,_,rfl,rfl,rfl,trivial⟩)|cases h) λF i j=>Rep.bl' _
theorem Mm:fN K (rI0 λi j => .bl (decide (i≤j))) fLe:=kU (λi j => .bl (decide (i≤j))) (λi j => .bl (decide (i≤j))) (λ_ _=>True) (λi j H Q _ q=>⟨i,j,rfl,rfl,q⟩)
 (λt u w h=>by cases t<;>cases u<;>first|(cases h;exact⟨_,_,rfl,rfl,rfl,trivial⟩)|cases h) λF i j=>Rep.bl' _
theorem Mn:fN K (rI0 λi j => .bl (decide (j<i))) fGt:=kU (λi j => .bl (decide (j<i))) (λi j => .bl (decide (j<i))) (λ_ _=>True) (λi j H Q _ q=>⟨i,j,rfl,rfl,q⟩)
 (λt u w h=>by cases t<;>cases u<;>first|(cases h;exact⟨_,_,rfl,rfl,rfl,trivial⟩)|cases h) λF i j=>Rep.bl' _
end
section
variable{X:Cx}{a b c:Expr}{da db dc:D}{pos p p2:Pos}
theorem xp(ha:CE X a da)(hb:CE X b db):CE X (.BinOp a .Sub b pos) (ai vf da db):=ml Lp Jr ha hb
theorem aW(ha:CE X a da)(hb:CE X b db):CE X (.BinOp a .Mod b pos) (ai aL da db):=ml Lr Js ha hb
theorem ed(ha:CE X a da)(hb:CE X b db):CE X (.BinOp a .FloorDiv b pos) (ai d_ da db):=ml H_ Jt ha hb
theorem Mo(ha:CE X a da)(hb:CE X b db):CE X (.BinOp a .Pow b pos) (ai IG da db):=ml Ls Ju ha hb
theorem Mp(ha:CE X a da)(hb:CE X b db):CE X (.BinOp a .RShift b pos) (ai Dm da db):=ml Lu Jv ha hb
theorem Ks(ha:CE X a da)(hb:CE X b db):CT X (.Compare a [.Lt] [b] pos) (ai fLt da db):=qw Kj Gk (qh _) ha hb
theorem Kt(ha:CE X a da)(hb:CE X b db):CT X (.Compare a [.Gt] [b] pos) (ai fGt da db):=qw N5 Mn (qh _) ha hb
theorem xq(ha:CE X a da):CE X (.UnaryOp .USub a pos) (dUn tw da):=Oz Lw (by
 intro F H v t w Q s hv hw q
 cases t<;>first|cases hw|skip
 cases hv.int
 exact⟨_,rfl,q _ H F bX.refl (Rep.jJ _)⟩) ha
end
end Fw
namespace L2
open PySem PySem.Spec PyProof.Rows
section
variable{X:Cx}
def Gm(K:PySem.W.Frag):R2:=λx y H Q=>∃a b xs ys,x = .ref a∧y = .ref b∧SqT K H a xs∧SqT K H b ys∧xs.length+ys.length≤sizeLine ∧
 (xs=[]→Q (.ref b) H)∧(xs≠[]→ys=[]→Q (.ref a) H)∧(xs≠[]→ys≠[]→∀p,H p=none→Q (.ref p) (upd H p (.tup (xs++ys))))
theorem Gn:OpR X (binaryOp .Add) (Gm X.K):=by
 intro pins s σ H x y v u Q I rx ry h
 obtain⟨a,b,xs,ys,hx0,hy0,ha,hb,hz,q0,q1,q2⟩:=h
 by_cases hx:xs=[]
 ·subst hx0;subst hy0
  cases rx
  cases ry
  obtain⟨its,r1,p1,_⟩:=I.tuple ha
  obtain⟨rT,r2,p2,_⟩:=I.tuple hb
  obtain⟨⟨cls,dd,data,sl⟩,ho,hc,n,hd⟩:=id p1
  obtain⟨⟨N8,dd2,data2,sl2⟩,ho2,hc2,n2,hd2⟩:=id p2
  simp only at hc hd hc2 hd2
  subst hc hd hc2 hd2
  have e:its=[]:=r1.sy.mpr hx
  exact concat_meets ⟨_,ho,rfl⟩ ⟨_,ho2,rfl⟩ noFill_tuple_add seq_tuple_add PySem.F.slot_tuple_add PySem.F.entry_tuple_add (PySem.F.args_tuple_add_2 _ _)
   (tuple_addW0 a b its.toArray rT.toArray n n2 dd dd2 sl sl2 (by simp[e])) ⟨ho,ho2,.ref b,H,I,rfl,q0 hx⟩
 ·exact Ik pins s σ H x y v u Q I rx ry ⟨a,b,xs,ys,hx0,hy0,ha,hb,hx,hz,q1 hx,q2 hx⟩
def Ku(K:PySem.W.Frag):R2:=λx y H Q=>∃l b xs zs,x = .ref l∧y = .ref b∧SqL K H l xs∧SqL K H b zs∧xs.length+zs.length≤sizeLine∧∀p,H p=none→Q (.ref p) (upd H p (.lst (xs++zs)))
theorem Jw:OpR X (binaryOp .Add) (Ku X.K):=by
 intro pins s σ H x y v u Q I rx ry h
 obtain⟨l,b,xs,zs,rfl,rfl,hA,hB,hz,q⟩:=h
 cases rx
 cases ry
 obtain⟨its,r,p1,_⟩:=I.list hA
 obtain⟨rT,r2,p2,_⟩:=I.list hB
 obtain⟨⟨cls,dd,data,sl⟩,ho,hc,n,hd⟩:=id p1.isList
 obtain⟨⟨N8,dd2,data2,sl2⟩,ho2,hc2,n2,hd2⟩:=id p2.isList
 simp only at hc hd hc2 hd2
 subst hc hd hc2 hd2
 have hl:=r.length
 have hl2:=r2.length
 have e:its.toArray++rT.toArray=(its++rT).toArray:=by simp
 refine concat_meets ⟨_,ho,rfl⟩ ⟨_,ho2,rfl⟩ noFill_list_add seq_list_add PySem.F.slot_list_add PySem.F.entry_list_add (PySem.F.args_list_add_2 _ _)
  (list_addW l b its.toArray rT.toArray n n2 dd dd2 sl sl2 (by rw[List.size_toArray,List.size_toArray];lia)) ⟨ho,ho2,?_⟩
 rw[e]
 exact⟨.ref _,_,I.LM (t':=s.toks) (r.append r2) (by rw[List.length_append];lia),rfl,q _ I.fresh⟩
end
end L2
namespace Fw
open PySem PySem.Spec PyProof.Rows L2
section
variable{K:PySem.W.Frag}
theorem xr:szL=sizeLine:=rfl
theorem aI.nil_of{F:Hp}{ts:List T}{vs:List V}(h:aI K F ts vs)(e:vs=[]):ts=[]:=by
 have:=h.length
 subst e
 exact List.length_eq_zero_iff.mp (by simpa using this)
theorem Cj{F H:Hp}{ts:List T}{vs:List V}{Q:VK}{p:Addr}(s:aX F H)(hp:H p=none)(r:aI K F ts vs)(q:∀v' H' F',bX F H F' H'→Rep K F' (.lst ts) v'→Q v' H'):Q (.ref p) (upd H p (.lst vs)):=by
 have g:bX F H (upd F p (.lst vs)) (upd H p (.lst vs)):=bX.new hp
 refine q _ _ _ g ?_
 rw[Rep]
 exact⟨p,vs,rfl,SqL.of aV,aI.mono (g.same s) _ _ r⟩
theorem xt{F H:Hp}{ts:List T}{vs:List V}{Q:VK}{p:Addr}(s:aX F H)(hp:H p=none)(r:aI K F ts vs)(q:∀v' H' F',bX F H F' H'→Rep K F' (.tup ts) v'→Q v' H'):Q (.ref p) (upd H p (.tup vs)):=by
 have g:bX F H (upd F p (.tup vs)) (upd H p (.tup vs)):=bX.new hp
 refine q _ _ _ g ?_
 rw[Rep]
 exact⟨p,vs,rfl,SqT.of aV,aI.mono (g.same s) _ _ r⟩
theorem xu{F:Hp}{a:Addr}{ts:List T}{vs:List V}(h:SqT K F a vs)(r:aI K F ts vs):Rep K F (.tup ts) (.ref a):=by
 rw[Rep];exact⟨a,vs,rfl,h,r⟩
theorem Jx:fN K (λx y H Q=>(rI0 λi j => .int (i+j)) x y H Q∨(λx y H Q=>∃i j,x = .str i∧y = .str j∧i.length+j.length≤sizeLine∧Q (.str (i++j)) H) x y H Q∨Gm K x y H Q∨Ku K x y H Q) bD:=by
 intro F H v u t t' w Q s hv hu hw q
 cases t with
 | int i =>
  cases t' with
  | int j =>
   cases hw
   cases hv.int
   cases hu.int
   exact .inl ⟨i,j,rfl,rfl,q _ H F bX.refl (Rep.jJ _)⟩
  | _=>cases hw
 | str i =>
  cases t' with
  | str j =>
   have hw:(if i.length+j.length≤szL then some (T.str (i++j)) else none)=some w:=hw
   by_cases hz:i.length+j.length≤szL
   ·rw[if_pos hz] at hw
    cases hw
    cases hv.str
    cases hu.str
    exact .inr (.inl ⟨i,j,rfl,rfl,hz,q _ H F bX.refl (Rep.IX _)⟩)
   ·rw[if_neg hz] at hw;cases hw
  | _=>cases hw
 | tup xs =>
  cases t' with
  | tup ys =>
   have hw:(if xs.length+ys.length≤szL then some (T.tup (xs++ys)) else none)=some w:=hw
   by_cases hz:xs.length+ys.length≤szL
   ·rw[if_pos hz] at hw
    cases hw
    obtain⟨a,vs,rfl,ha,ra⟩:=hv.vj
    obtain⟨b,us,rfl,hb,rb⟩:=hu.vj
    refine .inr (.inr (.inl ⟨a,b,vs,us,rfl,rfl,aX.kj s ha,aX.kj s hb,?_,λe=>?_,λe e2=>?_,λe e2 p hp=>?_⟩))
    ·have:=ra.length;have:=rb.length;rw[xr] at hz;lia
    ·refine q _ H F bX.refl ?_
     rw[ra.nil_of e,List.nil_append]
     exact xu hb rb
    ·refine q _ H F bX.refl ?_
     rw[rb.nil_of e2,List.append_nil]
     exact xu ha ra
    ·exact xt s hp (ra.append rb) q
   ·rw[if_neg hz] at hw;cases hw
  | _=>cases hw
 | lst xs =>
  cases t' with
  | lst ys =>
   have hw:(if xs.length+ys.length≤szL then some (T.lst (xs++ys)) else none)=some w:=hw
   by_cases hz:xs.length+ys.length≤szL
   ·rw[if_pos hz] at hw
    cases hw
    obtain⟨a,vs,rfl,ha,ra⟩:=hv.qA
    obtain⟨b,us,rfl,hb,rb⟩:=hu.qA
    exact .inr (.inr (.inr ⟨a,b,vs,us,rfl,rfl,ha,hb,by have:=ra.length;have:=rb.length;rw[xr] at hz;lia,λp hp=>Cj s hp (ra.append rb) q⟩))
   ·rw[if_neg hz] at hw;cases hw
  | _=>cases hw
 | _=>cases hw
end
section
variable{X:Cx}{a b c:Expr}{da db dc:D}{pos p p2:Pos}
theorem cE(ha:CE X a da)(hb:CE X b db):CE X (.BinOp a .Add b pos) (ai bD da db):=ml (Lo.or (Ar.or (Gn.or Jw))) Jx ha hb
end
section
variable{K:PySem.W.Frag}
theorem Jy:fN K (rI EZ λi j => .int (i*j)) aM:=kU (λi j => .int (i*j)) (λi j => .int (i*j)) EZ (λi j H Q c q=>⟨i,j,rfl,rfl,c,q⟩)
 (λt u w h=>by
  unfold aM at h
  cases t<;>cases u<;>first|cases h|skip
  rename_i i j
  have h:(if (-(2 ^ 64)<i∧i<2 ^ 64)∨(-(2 ^ 64)<j∧j<2 ^ 64) then some (T.int (i*j)) else none)=some w:=h
  by_cases hj:(-(2 ^ 64)<i∧i<2 ^ 64)∨(-(2 ^ 64)<j∧j<2 ^ 64)
  ·rw[if_pos hj] at h
   cases h
   exact⟨_,_,rfl,rfl,rfl,hj⟩
  ·rw[if_neg hj] at h;cases h) λF i j=>Rep.jJ _
theorem aI.atI{F:Hp}{ts:List T}{vs:List V}{i:Int}{t:T}(h:aI K F ts vs)(e:Fw.atI ts i=some t):∃v,L2.atI vs i=some v∧Rep K F t v:=by
 have hl:=h.length
 unfold Fw.atI at e
 obtain⟨j,h1,h2⟩:=Option.bind_eq_some_iff.mp e
 obtain⟨v,hv,rv⟩:=h.get h2
 refine⟨v,?_,rv⟩
 unfold L2.atI
 have:L2.ixN vs.length i=some j:=by rw[← hl];exact h1
 rw[this]
 exact hv
theorem Paired.atI{α β:Type}{P:α→β→Prop}{xs:List α}{ys:List β}{i:Int}{y:β}(h:Paired P xs ys)(e:Fw.atI ys i=some y):∃x,L2.atI xs i=some x∧P x y:=by
 have hl:=h.length
 unfold Fw.atI at e
 obtain⟨j,h1,h2⟩:=Option.bind_eq_some_iff.mp e
 have get:∀{xs:List α}{ys:List β}{j:Nat}{y:β},Paired P xs ys→ys[j]?=some y→∃x,xs[j]?=some x∧P x y:=by
  intro xs ys j y o
  induction o generalizing j with
  | nil=>intro e;simp at e
  | cons r _ ih =>
   intro e
   cases j with
   | zero=>simp at e;subst e;exact⟨_,rfl,r⟩
   | succ j =>
    obtain⟨v,h1,h2⟩:=ih (j:=j) (by simpa using e)
    exact⟨v,by simpa using h1,h2⟩
 obtain⟨v,hv,rv⟩:=get h h2
 refine⟨v,?_,rv⟩
 unfold L2.atI
 have:L2.ixN xs.length i=some j:=by rw[hl];exact h1
 rw[this]
 exact hv
end
section
variable{X:Cx}{a b c:Expr}{da db dc:D}{pos p p2:Pos}
theorem eF(ha:CE X a da)(hb:CE X b db):CE X (.BinOp a .Mult b pos) (ai aM da db):=ml Lq Jy ha hb
theorem aH(ha:CE X a da)(hb:CE X b db)(hp:BR b:=by intro _ _;rfl):CE X (.Subscript a b pos) (aF da db) :=
 PE.imp (Oa LG ha hb hp) λσ H Q ax=>by
  obtain⟨F,α,e,μ,S,h⟩:=ax
  refine⟨F,α,e,μ,S,?_⟩
  refine (R.wp_bind h).mono (λx μ1 h v H1 F1 α1 x1 S1 o1=>⟨F1,α1,e,μ1,S1,?_⟩) λ_ _ h=>h
  refine (R.wp_bind h).mono (λy μ2 h v2 H2 F2 α2 x2 S2 o2=>?_) λ_ _ h=>h.mono x1
  obtain⟨w,h9,post⟩:=R.bL h
  obtain⟨u,hu,h⟩:=Option.bind_eq_some_iff.mp h9
  have nu:=bo S2.st o2 hu
  have fin:∀{v'},fB X.K F2 α2 v' w→Q v' H2:=λ{v'} o=>post v' H2 F2 α2 (x1.trans x2) S2 o
  have o1':=o1.mono x2.same x2.pre
  have gen:∀t,rd μ2 x=some t→ap1 (λt=>L1 t u) (some t)=some w→rIx X.K v v2 H2 Q:=λt hr h=>by
   obtain⟨t',w',e1,h,rfl⟩:=om h
   cases e1
   have nt:=bo S2.st o1' hr
   cases t with
   | lst ts =>
    cases u with
    | int i =>
     cases nu.int
     obtain⟨a,vs,rfl,hq,hl⟩:=nt.qA
     obtain⟨v',g1,g2⟩:=hl.atI h
     exact .inl ⟨a,vs,i,v',rfl,rfl,hq,g1,fin g2⟩
    | _=>cases h
   | tup ts =>
    cases u with
    | int i =>
     cases nu.int
     obtain⟨a,vs,rfl,hq,hl⟩:=nt.vj
     obtain⟨v',g1,g2⟩:=hl.atI h
     exact .inr (.inl ⟨a,vs,i,v',rfl,rfl,aX.kj S2.st.ext hq,g1,fin g2⟩)
    | _=>cases h
   | str z =>
    cases u with
    | int i =>
     cases nu.int
     cases nt.str
     have h:(if z.length≤szL then (Fw.atI z.cps.toList i).map λc=>T.str ⟨#[c]⟩ else none)=some w':=h
     by_cases hz:z.length≤szL
     ·rw[if_pos hz] at h
      obtain⟨ch,g1,rfl⟩:=Option.map_eq_some_iff.mp h
      exact .inr (.inr ⟨z,i,ch,rfl,rfl,hz,g1,fin (Rep.IX (K:=X.K) (F:=F2) _)⟩)
     ·rw[if_neg hz] at h;cases h
    | _=>cases h
   | _=>cases u<;>cases h
  cases x with
  | val t=>exact gen t rfl (by unfold j5 at h;exact h)
  | cel k =>
   cases q:rd μ2 (.cel k) with
   | none=>unfold j5 at h;simp only at h;rw[q] at h;cases h
   | some t=>exact gen t q (by unfold j5 at h;simp only at h;rw[q] at h;exact h)
  | box xs =>
   cases u with
   | int i =>
    cases nu.int
    obtain⟨y',h1,rfl⟩:=Option.map_eq_some_iff.mp (show (Fw.atI xs i).map pick=some w from h)
    obtain⟨a,vs,rfl,hq,hp⟩:=o1'
    obtain⟨v',g1,g2⟩:=Paired.atI hp h1
    refine .inr (.inl ⟨a,vs,i,v',rfl,rfl,aX.kj S2.st.ext hq,g1,fin ?_⟩)
    cases y' with
    | inl t=>exact g2
    | inr k=>exact g2
   | _=>cases h
theorem fj(hm:X.mg "len"=none)(ha:CE X a da)(hg:Gl X "len":=by rfl)(hs1:starEach [a] X.env=(false,eval a X.env)::starEach [] X.env:=by rfl)(hpl:(backTo pos (starEach [] X.env)).any (·.1)=false:=by rfl) :
  CE X (.Call (.Name "len" p) [a] [] pos) (fz da) :=
 PE.imp (kb (wY.or (wZ.or Dj)) hg hm PySem.boot_len (af ha az hs1) (by decide) (by decide) hs1 hpl) λσ H Q ax=>by
  obtain⟨F,α,e,μ,S,h⟩:=ax
  refine wa ⟨F,α,e,μ,S,(R.wp_bind h).mono (λx μ1 h v H1 F1 α1 x1 S1 o1=>?_) λ_ _ h=>h⟩
  obtain⟨w,h9,post⟩:=R.bL h
  obtain⟨w',h,rfl⟩:=Option.map_eq_some_iff.mp h9
  have fin:∀{v'},Rep X.K F1 w' v'→Q v' H1:=λ{v'} o=>post v' H1 F1 α1 x1 S1 o
  have gen:∀t,rd μ1 x=some t→L3 t=some w'→(∃p ys,[v]=[V.ref p]∧(SqL X.K H1 p ys∨SqT X.K H1 p ys)∧Q (.int ys.length) H1)∨(∃z,[v]=[V.str z]∧z.length≤sizeLine∧Q (.int z.length) H1) ∨
    ∃d kvs,[v]=[V.ref d]∧H1 d=some (.dK kvs)∧Q (.int kvs.length) H1:=λt hr h=>by
   have nt:=bo S1.st o1 hr
   cases t with
   | lst ts =>
    cases h
    obtain⟨a,vs,rfl,hq,hl⟩:=nt.qA
    exact .inl ⟨a,vs,rfl,.inl hq,fin (by rw[hl.length];exact Rep.jJ _)⟩
   | tup ts =>
    cases h
    obtain⟨a,vs,rfl,hq,hl⟩:=nt.vj
    exact .inl ⟨a,vs,rfl,.inr (aX.kj S1.st.ext hq),fin (by rw[hl.length];exact Rep.jJ _)⟩
   | str z =>
    cases nt.str
    have h:(if z.length≤szL then some (T.int z.length) else none)=some w':=h
    by_cases hz:z.length≤szL
    ·rw[if_pos hz] at h
     cases h
     exact .inr (.inl ⟨z,rfl,hz,fin (Rep.jJ _)⟩)
    ·rw[if_neg hz] at h;cases h
   | dct kts =>
    cases h
    obtain⟨a,kvs,rfl,hq,hl⟩:=nt
    exact .inr (.inr ⟨a,kvs,rfl,hq,fin (by rw[hl.length];exact Rep.jJ _)⟩)
   | _=>cases h
  cases x with
  | val t=>exact gen t rfl (by unfold rY at h;exact h)
  | cel k =>
   cases q:rd μ1 (.cel k) with
   | none=>unfold rY at h;simp only at h;rw[q] at h;cases h
   | some t=>exact gen t q (by unfold rY at h;simp only at h;rw[q] at h;exact h)
  | box xs =>
   cases h
   obtain⟨a,vs,rfl,hq,hp⟩:=o1
   exact .inl ⟨a,vs,rfl,.inr (aX.kj S1.st.ext hq),fin (by rw[hp.length];exact Rep.jJ _)⟩
end
mutual
def toPy:T→PyData
 | .non => .none
 | .bl b => .bool b
 | .int i => .int i
 | .str x => .str x
 | .lst ts => .list (toPys ts)
 | .tup ts => .tuple (toPys ts)
 | .dct _ => .dict []
 | .exc _ _ => .dict []
def toPys:List T→List PyData
 | []=>[]
 | t::ts=>toPy t::toPys ts
end
mutual
theorem ub:∀(n:Nat) (t:T),okT n t=true→(toPy t).canLay0=true∧(toPy t).depth≤n
 | n,.non,_=>⟨by rw[toPy,PyData.canLay0],by rw[toPy,PyData.depth];exact Nat.zero_le _⟩
 | n,.bl _,_=>⟨by rw[toPy,PyData.canLay0],by rw[toPy,PyData.depth];exact Nat.zero_le _⟩
 | n,.int _,_=>⟨by rw[toPy,PyData.canLay0],by rw[toPy,PyData.depth];exact Nat.zero_le _⟩
 | n,.str x,h=>by
  unfold okT at h
  exact⟨by rw[toPy,PyData.canLay0];exact h,by rw[toPy,PyData.depth];exact Nat.zero_le _⟩
 | 0,.lst ts,h=>by rw[okT] at h;cases h
 | n+1,.lst ts,h=>by
  rw[okT] at h
  obtain⟨h1,h2⟩:=xv n ts h
  exact⟨by rw[toPy,PyData.canLay0];exact h1,by rw[toPy,PyData.depth];lia⟩
 | 0,.tup ts,h=>by rw[okT] at h;cases h
 | n+1,.tup ts,h=>by
  rw[okT] at h
  obtain⟨h1,h2⟩:=xv n ts h
  exact⟨by rw[toPy,PyData.canLay0];exact h1,by rw[toPy,PyData.depth];lia⟩
 | n,.dct _,h=>by unfold okT at h;cases h
 | n,.exc _ _,h=>by unfold okT at h;cases h
theorem xv:∀(n:Nat) (ts:List T),kg n ts=true→PyData.canLayAll0 (toPys ts)=true∧PyData.depthAll (toPys ts)≤n
 | n,[],_=>⟨by rw[toPys,PyData.canLayAll0],by rw[toPys,PyData.depthAll];exact Nat.zero_le _⟩
 | n,t::ts,h=>by
  rw[kg,Bool.and_eq_true] at h
  obtain⟨h1,h2⟩:=ub n t h.1
  obtain⟨h3,h4⟩:=xv n ts h.2
  exact⟨by rw[toPys,PyData.canLayAll0,h1,h3];rfl,by rw[toPys,PyData.depthAll];lia⟩
end
mutual
theorem A1:∀(n:Nat) (t u:T),okT n t=true→okT n u=true→PyData.eqv (toPy t) (toPy u)=eqT t u
 | n,.non,u,_,h=>by cases u<;>first|(simp[toPy,eqT,PyData.eqv];done)|(unfold okT at h;cases h)
 | n,.bl a,u,_,h=>by cases u<;>first|(simp[toPy,eqT,PyData.eqv];done)|(unfold okT at h;cases h)
 | n,.int a,u,_,h=>by cases u<;>first|(simp[toPy,eqT,PyData.eqv];done)|(unfold okT at h;cases h)
 | n,.str a,u,_,h=>by cases u<;>first|(simp[toPy,eqT,PyData.eqv];done)|(unfold okT at h;cases h)
 | 0,.lst a,u,h,_=>by rw[okT] at h;cases h
 | n+1,.lst a,u,h1,h=>by
  cases u with
  | lst b=>rw[toPy,toPy,eqT,PyData.eqv];rw[okT] at h1 h;exact xw n a b h1 h
  | dct _=>unfold okT at h;cases h
  | exc _ _=>unfold okT at h;cases h
  | _=>simp[toPy,eqT,PyData.eqv]
 | 0,.tup a,u,h,_=>by rw[okT] at h;cases h
 | n+1,.tup a,u,h1,h=>by
  cases u with
  | tup b=>rw[toPy,toPy,eqT,PyData.eqv];rw[okT] at h1 h;exact xw n a b h1 h
  | dct _=>unfold okT at h;cases h
  | exc _ _=>unfold okT at h;cases h
  | _=>simp[toPy,eqT,PyData.eqv]
 | n,.dct _,u,h,_=>by unfold okT at h;cases h
 | n,.exc _ _,u,h,_=>by unfold okT at h;cases h
theorem xw:∀(n:Nat) (ts us:List T),kg n ts=true→kg n us=true→PyData.eqvAll (toPys ts) (toPys us)=j4 ts us
 | n,[],[],_,_=>by rw[toPys,PyData.eqvAll,j4]
 | n,[],u::us,_,_=>by rw[toPys,toPys,PyData.eqvAll,j4]
 | n,t::ts,[],_,_=>by rw[toPys,toPys,PyData.eqvAll,j4]
 | n,t::ts,u::us,h1,h2=>by
  rw[kg,Bool.and_eq_true] at h1 h2
  rw[toPys,toPys,PyData.eqvAll,j4,A1 n t u h1.1 h2.1,xw n ts us h1.2 h2.2]
end
section
variable{X:Cx}{pins:List (Addr×Obj)}{σ:L2.St}{H:Hp}{s:Shared}
mutual
theorem mw(I:Inv X pins σ H s):∀(n:Nat) (t:T) (v:V) (u:Value),Rep X.K H t v→RelV v u→okT n t=true→∃as,Reads s.heap u (toPy t) as
 | n,.non,v,u,h,r,_=>by cases h.kN;cases r;rw[toPy];exact⟨_,.none⟩
 | n,.bl b,v,u,h,r,_=>by cases h.jr;cases r;rw[toPy];exact⟨_,.bool b⟩
 | n,.int i,v,u,h,r,_=>by cases h.mj;obtain⟨t,rfl⟩:=r;rw[toPy];exact⟨_,.int i t⟩
 | n,.str i,v,u,h,r,_=>by cases h.ow;obtain⟨t,rfl⟩:=r;rw[toPy];exact⟨_,.str i t⟩
 | 0,.lst ts,v,u,h,r,ok=>by rw[okT] at ok;cases ok
 | n+1,.lst ts,v,u,h,r,ok=>by
  rw[Rep] at h
  rw[okT] at ok
  obtain⟨a,vs,rfl,hq,hl⟩:=h
  cases r
  obtain⟨its,rv,pl,_⟩:=I.list hq
  obtain⟨o,ho,hc,m,hd⟩:=pl.isList
  obtain⟨as,ra⟩:=mx I n ts vs its hl rv ok
  rw[toPy]
  exact⟨_,.list ho hc hd (by simpa using ra)⟩
 | 0,.tup ts,v,u,h,r,ok=>by rw[okT] at ok;cases ok
 | n+1,.tup ts,v,u,h,r,ok=>by
  rw[Rep] at h
  rw[okT] at ok
  obtain⟨a,vs,rfl,hq,hl⟩:=h
  cases r
  obtain⟨its,rv,pl,_⟩:=I.tuple hq
  obtain⟨o,ho,hc,m,hd⟩:=pl
  obtain⟨as,ra⟩:=mx I n ts vs its hl rv ok
  rw[toPy]
  exact⟨_,.tuple ho hc hd (by simpa using ra)⟩
 | n,.dct _,v,u,h,r,ok=>by unfold okT at ok;cases ok
 | n,.exc _ _,v,u,h,r,ok=>by unfold okT at ok;cases ok
theorem mx(I:Inv X pins σ H s):∀(n:Nat) (ts:List T) (vs:List V) (us:List Value),aI X.K H ts vs→Vals vs us→kg n ts=true→∃as,ReadsAll s.heap us (toPys ts) as
 | n,[],vs,us,h,r,_=>by
  rw[aI] at h;subst h;cases r
  rw[toPys];exact⟨_,.nil⟩
 | n,t::ts,vs,us,h,r,ok=>by
  rw[aI] at h
  obtain⟨v,vs',rfl,q,hl⟩:=h
  rw[kg,Bool.and_eq_true] at ok
  cases r with
  | cons r1 r2 =>
   obtain⟨as,ra⟩:=mw I n t v _ q r1 ok.1
   obtain⟨bs,rb⟩:=mx I n ts vs' _ hl r2 ok.2
   rw[toPys]
   exact⟨_,.cons ra rb⟩
end
end
theorem Now.rep{K:PySem.W.Frag}{F H:Hp}{v:V}{t:T}(s:aX F H)(h:Now K F H v t)(hx:∀c n,t ≠ .exc c n):Rep K H t v:=by
 cases t with
 | lst ts=>rw[Rep];obtain⟨a,vs,e,q,r⟩:=h;exact⟨a,vs,e,q,aI.mono s _ _ r⟩
 | tup ts=>rw[Rep];obtain⟨a,vs,e,q,r⟩:=h;exact⟨a,vs,e,aX.kj s q,aI.mono s _ _ r⟩
 | dct ts=>rw[Rep];obtain⟨a,vs,e,q,r⟩:=h;exact⟨a,vs,e,q,bR.mono s _ _ r⟩
 | exc c n=>exact absurd rfl (hx c n)
 | _=>exact Rep.mono s _ _ h
def Jz(K:PySem.W.Frag)(neg:Bool):R2:=λx y H Q=>∃t u,Rep K H t x∧Rep K H u y∧okT 100 t=true∧okT 100 u=true∧Q (.bl (if neg then !eqT t u else eqT t u)) H
section
variable{X:Cx}{a b c:Expr}{da db dc:D}{pos p p2:Pos}{k:Nat}
theorem Gp(hr:eS k X.A):OpR X (compareOp .Eq) (Jz X.K false):=by
 intro pins s σ H x y v u Q I rx ry h
 obtain⟨t,t',h1,h2,o1,o2,q⟩:=h
 obtain⟨as,r1⟩:=mw I 100 t x v h1 rx o1
 obtain⟨bs,r2⟩:=mw I 100 t' y u h2 ry o2
 obtain⟨c1,d1⟩:=ub 100 t o1
 obtain⟨c2,d2⟩:=ub 100 t' o2
 refine SeqAt.compareEq_reads r1 r2 c1 c2 (by have:=hr.un;lia) ⟨.bl _,H,I,rfl,?_⟩
 rw[A1 100 t t' o1 o2]
 exact q
theorem Mq(hr:eS k X.A):OpR X (compareOp .NotEq) (Jz X.K true):=by
 intro pins s σ H x y v u Q I rx ry h
 obtain⟨t,t',h1,h2,o1,o2,q⟩:=h
 obtain⟨as,r1⟩:=mw I 100 t x v h1 rx o1
 obtain⟨bs,r2⟩:=mw I 100 t' y u h2 ry o2
 obtain⟨c1,d1⟩:=ub 100 t o1
 obtain⟨c2,d2⟩:=ub 100 t' o2
 refine SeqAt.compareNe_reads r1 r2 c1 c2 (by have:=hr.un;lia) ⟨.bl _,H,I,rfl,?_⟩
 rw[A1 100 t t' o1 o2]
 exact q
theorem pR{n:Nat}{t:T}(h:okT n t=true):∀c m,t ≠ .exc c m:=λc m e=>by subst e;unfold okT at h;cases h
theorem Gq{K:PySem.W.Frag}:fN K (λx y H Q=>Jz K false x y H Q∨rEq x y H Q) fEq:=by
 intro F H v u t t' w Q s hv hu hw q
 by_cases hs:∃a b,t = .str a∧t' = .str b
 ·obtain⟨a,b,rfl,rfl⟩:=hs
  cases hw
  cases hv.str
  cases hu.str
  refine .inr ⟨rfl,?_⟩
  have e:decide (V.str a=V.str b)=(a==b):=sx
  rw[e]
  exact q _ H F bX.refl (Rep.bl' _)
 ·have hw:(if okT 100 t=true∧okT 100 t'=true then some (T.bl (eqT t t')) else none)=some w:=by
   unfold fEq at hw
   split at hw
   ·exact absurd ⟨_,_,rfl,rfl⟩ hs
   ·exact hw
  by_cases ho:okT 100 t=true∧okT 100 t'=true
  ·rw[if_pos ho] at hw
   cases hw
   exact .inl ⟨t,t',hv.rep s (pR ho.1),hu.rep s (pR ho.2),ho.1,ho.2,q _ H F bX.refl (Rep.bl' _)⟩
  ·rw[if_neg ho] at hw;cases hw
theorem Mr{K:PySem.W.Frag}:fN K (λx y H Q=>Jz K true x y H Q∨rNe x y H Q) fNe:=by
 intro F H v u t t' w Q s hv hu hw q
 by_cases hs:∃a b,t = .str a∧t' = .str b
 ·obtain⟨a,b,rfl,rfl⟩:=hs
  cases hw
  cases hv.str
  cases hu.str
  refine .inr ⟨rfl,?_⟩
  have e:decide (V.str a=V.str b)=(a==b):=sx
  rw[e]
  exact q _ H F bX.refl (Rep.bl' _)
 ·have hw:(if okT 100 t=true∧okT 100 t'=true then some (T.bl (!eqT t t')) else none)=some w:=by
   unfold fNe at hw
   split at hw
   ·exact absurd ⟨_,_,rfl,rfl⟩ hs
   ·exact hw
  by_cases ho:okT 100 t=true∧okT 100 t'=true
  ·rw[if_pos ho] at hw
   cases hw
   exact .inl ⟨t,t',hv.rep s (pR ho.1),hu.rep s (pR ho.2),ho.1,ho.2,q _ H F bX.refl (Rep.bl' _)⟩
  ·rw[if_neg ho] at hw;cases hw
theorem rJ(hr:eS k X.A)(ha:CE X a da)(hb:CE X b db):CE X (.Compare a [.Eq] [b] pos) (ai fEq da db):=L6 ((Gp hr).or Ki) Gq (qh _) ha hb
theorem ku(hr:eS k X.A)(ha:CE X a da)(hb:CE X b db):CT X (.Compare a [.Eq] [b] pos) (ai fEq da db):=qw ((Gp hr).or Ki) Gq (qh _) ha hb
theorem my(hr:eS k X.A)(ha:CE X a da)(hb:CE X b db):CT X (.Compare a [.NotEq] [b] pos) (ai fNe da db):=qw ((Mq hr).or N3) Mr (qh _) ha hb
def TyN(K:PySem.W.Frag)(H:Hp)(v:V)(ty:String):Prop:=match v with
 | .non=>ty="NoneType"
 | .bl _=>ty="bool"
 | .int _=>ty="int"
 | .str _=>ty="str"
 | .ref a=>(ty="list"∧∃xs,SqL K H a xs)∨(ty="tuple"∧∃xs,SqT K H a xs)∨(ty="dict"∧∃kvs,H a=some (.dK kvs))
 | _=>False
theorem Gr{cn:String}:fL X (.builtin "isinstance") (λxs H Q=>∃v ty r,xs=[v,.ty cn]∧TyN X.K H v ty∧PySem.W.kitOne X.K (.type ty) (.type cn)=some r∧Q (.bl r) H):=by
 intro pins s σ H xs us Q I r h
 obtain⟨v,ty,b,rfl,hty,e,q⟩:=h
 obtain⟨u1,u2,rfl,r1,r2⟩:=vals2 r
 have r2:u2=Value.type cn:=r2
 subst r2
 have fin:∀tk,EP X pins σ Q (.bool b) { s with toks:=tk }:=λtk=>⟨.bl b,H,I.tok _,rfl,q⟩
 cases v with
 | non=>cases (show u1=Value.none from r1);cases hty;exact PySem.W.kia_one PySem.W.kitx_none I.kIn True.intro e (λz=>nomatch z) fin
 | bl y=>cases (show u1=Value.bool y from r1);cases hty;exact PySem.W.kia_one PySem.W.kitx_bool I.kIn True.intro e (λz=>nomatch z) fin
 | int i=>obtain⟨t,q⟩:=(show ∃t,u1=Value.int i t from r1);cases q;cases hty;exact PySem.W.kia_one PySem.W.kitx_int I.kIn True.intro e (λz=>nomatch z) fin
 | str y=>obtain⟨t,q⟩:=(show ∃t,u1=Value.str y t from r1);cases q;cases hty;exact PySem.W.kia_one PySem.W.kitx_str I.kIn True.intro e (λz=>nomatch z) fin
 | ref a =>
  cases (show u1=Value.ref a from r1)
  rcases hty with ⟨rfl,xs,hq⟩|⟨rfl,xs,hq⟩|⟨rfl,kvs,hq⟩
  ·obtain⟨its,_,pl,_⟩:=I.list hq
   obtain⟨o,ho,hc,_⟩:=pl.isList
   exact PySem.W.kia_one PySem.W.kitx_list I.kIn ⟨o,ho,hc⟩ e (λz=>nomatch z) fin
  ·obtain⟨its,_,pl,_⟩:=I.tuple hq
   obtain⟨o,ho,hc,_⟩:=pl
   exact PySem.W.kia_one PySem.W.kitx_tuple I.kIn ⟨o,ho,hc⟩ e (λz=>nomatch z) fin
  ·obtain⟨_,_,vs,_,pz⟩:=(show dI X.prog X.w H s.heap a (.dK kvs) from I.hok a _ hq)
   obtain⟨o,es,h1,h2,_⟩:=pz
   exact PySem.W.kia_one PySem.W.kitx_dict I.kIn ⟨o,h1,h2.1⟩ e (λz=>nomatch z) fin
 | _=>exact hty.elim
def Kd.name:Kd→String
 | .int=>"int"
 | .bool=>"bool"
 | .str=>"str"
 | .list=>"list"
 | .tuple=>"tuple"
 | .dict=>"dict"
def kdT:T→String
 | .non=>"NoneType"
 | .bl _=>"bool"
 | .int _=>"int"
 | .str _=>"str"
 | .lst _=>"list"
 | .tup _=>"tuple"
 | .dct _=>"dict"
 | .exc _ _=>""
def ON(x y:String):Option Bool:=if (Value.type x==Value.type y)=true then some true else if PySem.W.kitMeta y=true then (PySem.fastBuiltinMro x).map (·.contains (Value.type y)) else none
def Gs(x y:String):Bool:=x==y || (x=="bool" && y=="int")
theorem Gu:∀x∈["NoneType","bool","int","str","list","tuple","dict"],∀y∈["int","bool","str","list","tuple","dict"],ON x y=some (Gs x y):=by decide +kernel
theorem Ck{K:PySem.W.Frag}(kd:Kd)(t:T)(hx:∀c n,t ≠ .exc c n):PySem.W.kitOne K (.type (kdT t)) (.type kd.name)=some (isK kd t):=by
 have e:PySem.W.kitOne K (.type (kdT t)) (.type kd.name)=ON (kdT t) kd.name:=rfl
 have h1:kdT t∈["NoneType","bool","int","str","list","tuple","dict"]:=by cases t<;>first|exact absurd rfl (hx _ _)|simp[kdT]
 have h2:kd.name∈["int","bool","str","list","tuple","dict"]:=by cases kd<;>simp[Kd.name]
 have h3:Gs (kdT t) kd.name=isK kd t:=by cases kd<;>cases t<;>first|exact absurd rfl (hx _ _)|rfl
 rw[e,Gu _ h1 _ h2,h3]
theorem A2(kd:Kd){cn:Str}(hm:X.mg "isinstance"=none)(hm2:X.mg cn=none)(hv2:bootBuiltins cn=some (.type kd.name))(ha:CE X a da)(hn2:cn≠"__name__")(hd2:(cn==("__debug__":Str))=false)(hg:Gl X "isinstance":=by rfl)(hg2:Gl X cn:=by rfl)
  (hs1:starEach [a,.Name cn p2] X.env=(false,eval a X.env)::starEach [.Name cn p2] X.env:=by rfl) (hs2:starEach [.Name cn p2] X.env=(false,eval (.Name cn p2) X.env)::starEach [] X.env:=by rfl) (hpl:(backTo pos (starEach [.Name cn p2] X.env)).any (·.1)=false:=by rfl) :
  CE X (.Call (.Name "isinstance" p) [a,.Name cn p2] [] pos) (dIs kd da) :=
 PE.imp (kb Gr hg hm (by decide +kernel) (ia ha (ia (BJ (v:=.ty kd.name) hg2 hm2 hv2 rfl hn2 hd2) qj hs2) hs1) (by decide) (by decide) hs1 hpl) λσ H Q ax=>by
  obtain⟨F,α,e,μ,S,h⟩:=ax
  refine⟨F,α,e,μ,S,(R.wp_bind h).mono (λx μ1 h v H1 F1 α1 x1 S1 o1=>?_) λ_ _ h=>h⟩
  obtain⟨w,h9,post⟩:=R.bL h
  obtain⟨w',h,rfl⟩:=Option.map_eq_some_iff.mp h9
  have fin:∀{v'},Rep X.K F1 w' v'→Q v' H1:=λ{v'} o=>post v' H1 F1 α1 x1 S1 o
  have gen:∀t,rd μ1 x=some t→isT kd t=some w'→∃v' ty r,[v,V.ty kd.name]=[v',.ty kd.name]∧TyN X.K H1 v' ty∧PySem.W.kitOne X.K (.type ty) (.type kd.name)=some r∧Q (.bl r) H1:=λt hr h=>by
   have nt:=bo S1.st o1 hr
   have hx:∀c n,t ≠ .exc c n:=λc n z=>by subst z;cases h
   have ew:w' = .bl (isK kd t):=by
    cases t<;>first|exact (Option.some.inj h).symm|cases h
   subst ew
   refine⟨v,kdT t,_,rfl,?_,Ck kd t hx,fin (Rep.bl' _)⟩
   cases t with
   | non=>rw[show v = .non from Rep.kN (K:=X.K) (F:=F1) nt];rfl
   | bl b=>rw[nt.bl];rfl
   | int b=>rw[nt.int];rfl
   | str b=>rw[nt.str];rfl
   | lst ts=>obtain⟨a,vs,rfl,hq,_⟩:=nt.qA;exact .inl ⟨rfl,vs,hq⟩
   | tup ts=>obtain⟨a,vs,rfl,hq,_⟩:=nt.vj;exact .inr (.inl ⟨rfl,vs,aX.kj S1.st.ext hq⟩)
   | dct ts=>obtain⟨a,vs,rfl,hq,_⟩:=nt;exact .inr (.inr ⟨rfl,vs,hq⟩)
   | exc c n=>exact absurd rfl (hx c n)
  cases x with
  | val t=>exact gen t rfl h
  | cel j =>
   cases q:rd μ1 (.cel j) with
   | none=>rw[B4,q] at h;cases h
   | some t=>exact gen t q (by rw[B4,q] at h;exact h)
  | box xs =>
   cases h
   obtain⟨a,vs,rfl,hq,_⟩:=o1
   exact⟨_,"tuple",_,rfl,.inr (.inl ⟨rfl,vs,aX.kj S1.st.ext hq⟩),Ck kd (.tup []) (λc n z=>by cases z),fin (Rep.bl' _)⟩
theorem DO(hm:X.mg "isinstance"=none)(hm2:X.mg "int"=none)(ha:CE X a da)(hg:Gl X "isinstance":=by rfl)(hg2:Gl X "int":=by rfl)
  (hs1:starEach [a,.Name "int" p2] X.env=(false,eval a X.env)::starEach [.Name "int" p2] X.env:=by rfl) (hs2:starEach [.Name "int" p2] X.env=(false,eval (.Name "int" p2) X.env)::starEach [] X.env:=by rfl) (hpl:(backTo pos (starEach [.Name "int" p2] X.env)).any (·.1)=false:=by rfl) :
  CE X (.Call (.Name "isinstance" p) [a,.Name "int" p2] [] pos) (dIs .int da):=A2 .int hm hm2 (by decide +kernel) ha (by decide +kernel) (by decide +kernel) hg hg2 hs1 hs2 hpl
theorem A3(hm:X.mg "isinstance"=none)(hm2:X.mg "bool"=none)(ha:CE X a da)(hg:Gl X "isinstance":=by rfl)(hg2:Gl X "bool":=by rfl)
  (hs1:starEach [a,.Name "bool" p2] X.env=(false,eval a X.env)::starEach [.Name "bool" p2] X.env:=by rfl) (hs2:starEach [.Name "bool" p2] X.env=(false,eval (.Name "bool" p2) X.env)::starEach [] X.env:=by rfl) (hpl:(backTo pos (starEach [.Name "bool" p2] X.env)).any (·.1)=false:=by rfl) :
  CE X (.Call (.Name "isinstance" p) [a,.Name "bool" p2] [] pos) (dIs .bool da):=A2 .bool hm hm2 (by decide +kernel) ha (by decide +kernel) (by decide +kernel) hg hg2 hs1 hs2 hpl
theorem uc(hm:X.mg "isinstance"=none)(hm2:X.mg "list"=none)(ha:CE X a da)(hg:Gl X "isinstance":=by rfl)(hg2:Gl X "list":=by rfl)
  (hs1:starEach [a,.Name "list" p2] X.env=(false,eval a X.env)::starEach [.Name "list" p2] X.env:=by rfl) (hs2:starEach [.Name "list" p2] X.env=(false,eval (.Name "list" p2) X.env)::starEach [] X.env:=by rfl) (hpl:(backTo pos (starEach [.Name "list" p2] X.env)).any (·.1)=false:=by rfl) :
  CE X (.Call (.Name "isinstance" p) [a,.Name "list" p2] [] pos) (dIs .list da):=A2 .list hm hm2 (by decide +kernel) ha (by decide +kernel) (by decide +kernel) hg hg2 hs1 hs2 hpl
end
theorem zu:∀{ts:List T}{bs:List Bool},tJ ts=some bs→ts=bs.map T.bl
 | [],bs,h=>by cases h;rfl
 | t::ts,bs,h=>by
  cases t with
  | bl b =>
   obtain⟨cs,h1,rfl⟩:=Option.map_eq_some_iff.mp (show (tJ ts).map (λbs=>b::bs)=some bs from h)
   rw[zu h1];rfl
  | _=>cases h
theorem wA:∀{ts:List T}{bs:List Int},ou ts=some bs→ts=bs.map T.int
 | [],bs,h=>by cases h;rfl
 | t::ts,bs,h=>by
  cases t with
  | int b =>
   obtain⟨cs,h1,rfl⟩:=Option.map_eq_some_iff.mp (show (ou ts).map (λbs=>b::bs)=some bs from h)
   rw[wA h1];rfl
  | _=>cases h
theorem aI.bls{K:PySem.W.Frag}{F:Hp}:∀{bs:List Bool}{vs:List V},aI K F (bs.map T.bl) vs→vs=bs.map V.bl
 | [],vs,h=>by rw[List.map_nil,aI] at h;exact h
 | b::bs,vs,h=>by
  rw[List.map_cons,aI] at h
  obtain⟨v,vs',rfl,q,r⟩:=h
  rw[r.bls,q.jr];rfl
theorem aI.Kv{K:PySem.W.Frag}{F:Hp}:∀{bs:List Int}{vs:List V},aI K F (bs.map T.int) vs→vs=bs.map V.int
 | [],vs,h=>by rw[List.map_nil,aI] at h;exact h
 | b::bs,vs,h=>by
  rw[List.map_cons,aI] at h
  obtain⟨v,vs',rfl,q,r⟩:=h
  rw[r.Kv,q.mj];rfl
theorem zv:∀{bs:List Bool}{us:List Value},Vals (bs.map V.bl) us→us=bs.map Value.bool
 | [],us,h=>by cases h;rfl
 | b::bs,us,h=>by
  rw[List.map_cons] at h
  cases h with
  | cons r h=>rw[zv h,show _=Value.bool b from r];rfl
section
variable{X:Cx}{a b c:Expr}{da db dc:D}{pos p p2:Pos}{k:Nat}
theorem DP{prog:Program}{w:World}{A:Around}{E:Value→Shared→Prop}{s:Shared}{l:Addr}{its:Array Value}{Q:Value→Shared→Prop}(hl:s.heap.IsList l its)
  (h:∀s₂:Shared,s₂={ s with heap:=s.heap.push { cls:=.type "list_iterator",data:=.fields #[.ref l,.int 0 0] } }→(s₂.heap.IsListIter s.heap.objs.size l 0∧s₂.heap.IsList l its)→l≠s.heap.objs.size→Q (.ref s.heap.objs.size) s₂) :
  wpAny (model prog w) A (pyIter (.ref l)) Q E s:=by
 have hlt:l<s.heap.objs.size:=by obtain⟨_,e,_⟩:=hl;exact Heap.lt_size e
 exact wpAny_pyIter_list hl (h _ rfl ⟨⟨_,Heap.get?_push_size _ rfl,rfl,rfl⟩,hl.push _⟩ (Nat.ne_of_lt hlt))
theorem range_all(bs:List Bool):(List.range bs.length).all (λi=>bs.getD i true)=bs.all id:=by
 rw[Bool.eq_iff_iff,List.all_eq_true,List.all_eq_true]
 constructor
 ·intro h x hx
  obtain⟨i,hi⟩:=List.mem_iff_getElem?.mp hx
  have hl:i<bs.length:=(List.getElem?_eq_some_iff.mp hi).1
  have:=h i (List.mem_range.mpr hl)
  rw[List.getD_eq_getElem?_getD,hi] at this
  exact this
 ·intro h i hi
  have hl:i<bs.length:=List.mem_range.mp hi
  rw[List.getD_eq_getElem?_getD,List.getElem?_eq_getElem hl]
  exact h _ (List.getElem_mem hl)
theorem DQ{prog:Program}{w:World}{A:Around}(bs:List Bool):TruthOf prog w A (λi v=>((bs.map Value.bool).toArray)[i]?=some v) (λi=>bs.getD i true):=by
 intro i v s Q E hP hQ
 have hP:(bs.map Value.bool)[i]?=some v:=by simpa using hP
 rw[List.getElem?_map] at hP
 cases q:bs[i]? with
 | none=>rw[q] at hP;cases hP
 | some y =>
  rw[q] at hP
  cases hP
  have hQ:Q (bs.getD i true) s:=hQ
  rw[List.getD_eq_getElem?_getD,q] at hQ
  exact wpAny_truthy_bool hQ
theorem DR(hr:eS k X.A):fL X (.builtin "all") (λxs H Q=>∃(p:Addr) (bs:List Bool),xs=[.ref p]∧SqL X.K H p (bs.map V.bl)∧Q (.bl (bs.all id)) H):=by
 intro pins s σ H xs us Q I r h
 obtain⟨p,bs,rfl,hq,q⟩:=h
 obtain⟨u,rfl,ru⟩:=vals1 r
 cases ru
 obtain⟨its,rv,pl,hz⟩:=I.list hq
 cases zv rv
 refine call_all_walk (DP pl.isList λs₂ e st hne=>?_)
 subst e
 refine⟨_,_,_,_,_,_,_,rfl,Walks.list (A:=X.A.in1) hr.hd _ p hne _,st,DQ bs,λh' tk hk=>?_⟩
 rw[List.size_toArray,List.length_map,range_all]
 exact⟨.bl _,H,I.kept (t':=tk) (old_kept hk),rfl,q⟩
theorem DT(hr:eS k X.A):fL X (.builtin "sum") (λxs H Q=>∃(p:Addr) (ns:List Int),xs=[.ref p]∧SqL X.K H p (ns.map V.int)∧Q (.int ns.sum) H):=by
 intro pins s σ H xs us Q I r h
 obtain⟨p,ns,rfl,hq,q⟩:=h
 obtain⟨u,rfl,ru⟩:=vals1 r
 cases ru
 obtain⟨its,rv,pl,hz⟩:=I.list hq
 have hi:IntsAre its ns:=intsAre_of rv
 have Ff:AllInts its.toArray:=hi.allInts
 obtain⟨xs,hxs⟩:=Ff.items
 rw[hxs] at pl
 refine sum_intListG hr.hd pl.isList λh' tk t' hk=>⟨.int ns.sum,H,I.kept (t':=tk) hk,⟨t',?_⟩,q⟩
 rw[preSum_eq,List.take_of_length_le (by simp)]
 have e1:=hi.numsOf
 have e2:its=(intItems xs).toList:=by rw[← hxs]
 rw[e2,nums_intItems] at e1
 rw[e1]
theorem Gv(hr:eS k X.A)(hm:X.mg "all"=none)(ha:CE X a da)(hg:Gl X "all":=by rfl)(hs1:starEach [a] X.env=(false,eval a X.env)::starEach [] X.env:=by rfl)(hpl:(backTo pos (starEach [] X.env)).any (·.1)=false:=by rfl) :
  CE X (.Call (.Name "all" p) [a] [] pos) (dUn yV da):=Cb (DR hr) (by
 intro F H v t w Q s hv hw q
 cases t with
 | lst ts =>
  obtain⟨bs,h1,rfl⟩:=Option.map_eq_some_iff.mp (show (tJ ts).map _=some w from hw)
  obtain⟨a,vs,rfl,hq,hl⟩:=hv.qA
  rw[zu h1] at hl
  rw[hl.bls] at hq
  exact⟨a,bs,rfl,hq,q _ H F bX.refl (Rep.bl' _)⟩
 | _=>cases hw) hm (by decide +kernel) ha hg (by decide) (by decide) hs1 hpl
theorem xx(hr:eS k X.A)(hm:X.mg "sum"=none)(ha:CE X a da)(hg:Gl X "sum":=by rfl)(hs1:starEach [a] X.env=(false,eval a X.env)::starEach [] X.env:=by rfl)(hpl:(backTo pos (starEach [] X.env)).any (·.1)=false:=by rfl) :
  CE X (.Call (.Name "sum" p) [a] [] pos) (dUn ma da):=Cb (DT hr) (by
 intro F H v t w Q s hv hw q
 cases t with
 | lst ts =>
  obtain⟨bs,h1,rfl⟩:=Option.map_eq_some_iff.mp (show (ou ts).map _=some w from hw)
  obtain⟨a,vs,rfl,hq,hl⟩:=hv.qA
  rw[wA h1] at hl
  rw[hl.Kv] at hq
  exact⟨a,bs,rfl,hq,q _ H F bX.refl (Rep.jJ _)⟩
 | _=>cases hw) hm (by decide +kernel) ha hg (by decide) (by decide) hs1 hpl
theorem kx(hm:X.mg "tuple"=none)(ha:CE X a da)(hg:Gl X "tuple":=by rfl)(hs1:starEach [a] X.env=(false,eval a X.env)::starEach [] X.env:=by rfl)(hpl:(backTo pos (starEach [] X.env)).any (·.1)=false:=by rfl) :
  CE X (.Call (.Name "tuple" p) [a] [] pos) (dUn eZ da):=FW ve (by
 intro F H v t w Q s hv hw q
 cases t with
 | lst ts =>
  cases hw
  obtain⟨a,vs,rfl,hq,hl⟩:=hv.qA
  exact⟨a,vs,rfl,.inl ⟨hq,λl hp=>xt s hp hl q⟩⟩
 | tup ts =>
  cases hw
  obtain⟨a,vs,rfl,hq,hl⟩:=hv.vj
  exact⟨a,vs,rfl,.inr ⟨aX.kj s hq,q _ H F bX.refl (xu hq hl)⟩⟩
 | _=>cases hw) hm (by decide +kernel) ha hg (by decide) (by decide) hs1 hpl
theorem pS(hm:X.mg "list"=none)(ha:CE X a da)(hg:Gl X "list":=by rfl)(hs1:starEach [a] X.env=(false,eval a X.env)::starEach [] X.env:=by rfl)(hpl:(backTo pos (starEach [] X.env)).any (·.1)=false:=by rfl) :
  CF X (.Call (.Name "list" p) [a] [] pos) (dUn lJ da):=FX w5 (by
 intro F H v t w Q s hv hw q
 cases t with
 | lst ts =>
  cases hw
  obtain⟨a,vs,rfl,hq,hl⟩:=hv.qA
  exact⟨a,vs,rfl,.inl hq,λl hp=>q l _ hp ⟨vs,aV,hl⟩⟩
 | tup ts =>
  cases hw
  obtain⟨a,vs,rfl,hq,hl⟩:=hv.vj
  exact⟨a,vs,rfl,.inr (aX.kj s hq),λl hp=>q l _ hp ⟨vs,aV,hl⟩⟩
 | _=>cases hw) hm (by decide +kernel) ha hg (by decide) (by decide) hs1 hpl
theorem Ms:CF X (.Dict [] [] pos) (dC (.dct [])):=by
 refine⟨PE.imp Fe λσ H Q ⟨F,α,e,μ,S,h⟩=>?_,λe μ x μ' h=>?_⟩
 ·obtain⟨t,et,post⟩:=h
  cases et
  intro d hd
  exact post d _ F α (Ex.lay hd) (S.of (aX.refl _) (List.prefix_refl _) (S.st.lay hd)) hd (S.st.ext.free hd) (dM S.st hd) ⟨[],aV,by rw[bR]⟩
 ·cases h;exact⟨_,rfl⟩
theorem ud{es:List Expr}{ds:List D}(h:CA X es ds)(hb:CE X b db)(hl:ds.length≤1000:=by decide):CF X (.BinOp (.List es p) .Mult b pos) (pH oq ds db):=by
 refine⟨PE.imp (Kh LN (E5 h) hb) λσ H Q ⟨F,α,e,μ,S,h⟩=>?_,λe μ x μ' h=>?_⟩
 ·refine⟨F,α,e,μ,S,(fC (R.wp_bind h)).mono (λxs μ1 ⟨hn,h⟩ vs H1 F1 α1 x1 S1 o1=>?_) λ_ _ h=>h⟩
  have h:=R.wp_bind h
  cases hz:eJ xs μ1 with
  | err c μ2=>exact absurd hz (sA xs μ1 c μ2)
  | bad=>rw[hz] at h;exact h.elim
  | ok ts μ2 =>
   rw[hz] at h
   obtain⟨F2,s2,n2,S2,r2⟩:=sE S1.st o1 hz
   refine⟨ny hn o1 hl,λl hp=>?_⟩
   have x2:Ex F α H F2 α1 (upd H1 l (.lst vs)):=x1.trans ((Ex.tP s2 n2).trans (Ex.lay hp))
   refine⟨F2,α1,e,μ2,S1.of s2 (List.prefix_refl _) (S2.lay hp),(R.wp_bind h).mono (λy μ3 h v3 H3 F3 α3 x3 S3 o3=>?_) λ_ _ h=>h.mono x2⟩
   obtain⟨w,h9,t',e1,post⟩:=R.bL h
   obtain⟨t,w',ht,h,e2⟩:=om h9
   subst e1
   cases e2
   cases t with
   | int i =>
    cases (bo S3.st o3 ht).int
    have h:(if -(2 ^ 63)≤i∧i<2 ^ 63∧ts.length*i.toNat≤szL then some (T.lst (List.replicate i.toNat ts).flatten) else none)=some t':=h
    by_cases hc:-(2 ^ 63)≤i∧i<2 ^ 63∧ts.length*i.toNat≤szL
    ·rw[if_pos hc] at h
     cases h
     obtain⟨g1,g2,g3⟩:=x3.fr l _ aV (S2.ext.free hp) (dM S2 hp)
     refine⟨l,i,vs,rfl,rfl,g1,hc.1,hc.2.1,by rw[← r2.length];exact hc.2.2,λp' hp'=>?_⟩
     exact post p' _ F3 α3 ((x2.trans x3).trans (Ex.lay hp')) (S3.of (aX.refl _) (List.prefix_refl _) (S3.st.lay hp')) ((x2.trans x3).was S3.st hp') (S3.st.ext.free hp') (dM S3.st hp')
      ⟨_,aV,(aI.mono x3.same _ _ r2).flat i.toNat⟩
    ·rw[if_neg hc] at h;cases h
   | _=>cases h
 ·unfold pH at h
  obtain⟨xs,μ1,hx,h⟩:=R.a_ h
  obtain⟨ts,μ2,hz,h⟩:=R.a_ h
  obtain⟨y,μ3,hy,h⟩:=R.a_ h
  obtain⟨h9,rfl⟩:=R.oj h
  obtain⟨t,w',ht,h,rfl⟩:=om h9
  exact⟨_,rfl⟩
theorem eV{o e1:Expr}{do_ de:D}{apos jl:Pos}(ho:CE X o do_)(he:CE X e1 de)(pA:attributeBase o "append" X.env (eval o X.env)=eval o X.env:=by rfl)
  (LK:((backTo jl (starEach [e1] X.env)).all (λx=>!x.1) && (backToKw jl (keywordEach [] X.env)).all (λx=>x.1.isSome) && decide (([e1]:List Expr).length+([]:List Keyword).length+(if ([]:List Keyword).isEmpty then 0 else 1)<30))=true:=by rfl)
  (sV:(apos.endLine==jl.line)=true:=by rfl) (hs1:starEach [e1] X.env=(false,eval e1 X.env)::starEach [] X.env:=by rfl) (hpl:(backTo jl (starEach [] X.env)).any (·.1)=false:=by rfl)
  (hs:swapsWith (.Call (.Attribute o "append" apos) [e1] [] jl) none pos.line X.env=pure false:=by rfl) :
  CS X (.Expr (.Call (.Attribute o "append" apos) [e1] [] jl) pos) (cu do_ de) :=
 PS.imp (BK (Of PySem.F.plainAttrs_list PySem.F.slot_list_append PySem.F.type_list_append vX ho (af he az hs1) pA LK sV hs1 hpl) hs) λD σ H ax=>by
  obtain⟨F,α,e,μ,S,h⟩:=ax
  refine⟨F,α,e,μ,S,(bc.toS h).mono (λx μ1 h v H1 F1 α1 x1 S1 o1=>?_) λ_ _ h=>h⟩
  obtain⟨_,hl,h⟩:=h.lift
  cases x with
  | cel j =>
   obtain⟨ad,ha,rfl⟩:=o1
   have hc:∃bb ts,μ1[j]?=some (bb,.lst ts):=by
    unfold qq at hl
    simp only at hl
    split at hl
    ·exact⟨_,_,by assumption⟩
    ·cases hl
   obtain⟨bb,ts,hj⟩:=hc
   have n1:=bo S1.st (x:=.cel j) (t:=.lst ts) ⟨ad,ha,rfl⟩ (by rw[mm,hj];rfl)
   obtain⟨a',vs,e1,hq,_⟩:=n1.qA
   cases e1
   refine⟨.inl ⟨rfl,vs,hq⟩,wa ⟨F1,α1,e,μ1,S1,(bc.toS h).mono (λy μ2 h v2 H2 F2 α2 x2 S2 o2=>?_) λ_ _ h=>h.mono x1⟩⟩
   have h:=h.toS
   cases hz:frz y μ2 with
   | err c μ3=>exact absurd hz (sZ y μ2 c μ3)
   | bad=>rw[hz] at h;exact h.elim
   | ok t μ3 =>
    rw[hz] at h
    obtain⟨μ4,ha4,h⟩:=bc.lift h
    obtain⟨F3,s3,n3,S3,r3⟩:=qt S2.st o2 hz
    unfold appendAt at ha4
    simp only at ha4
    have hc:∃us,μ3[j]?=some (true,.lst us)∧us.length<szL∧μ4=μ3.set j (true,.lst (us++[t])):=by
     split at ha4
     ·rename_i us hjs
      by_cases hu:us.length<szL
      ·rw[if_pos hu] at ha4
       cases ha4
       exact⟨us,hjs,hu,rfl⟩
      ·rw[if_neg hu] at ha4;cases ha4
     ·cases ha4
    obtain⟨us,hj3,hu,rfl⟩:=hc
    have ha3:α2[j]?=some ad:=nr x2.pre ha
    obtain⟨_,ws,hw,rw'⟩:=(S3.cell j true _ ad hj3 ha3).1 rfl
    have el:=rw'.length
    refine⟨ad,ws,v2,rfl,rfl,hw,by rw[xr] at hu;omega,?_⟩
    have x3:Ex F α H F3 α2 H2:=x1.trans (x2.trans (Ex.tP s3 n3))
    exact h σ _ F3 α2 (x3.trans (Ex.put ha3)) ((S2.of s3 (List.prefix_refl _) S3).of (aX.refl _) (List.prefix_refl _) (AN S3 hj3 ha3 ⟨_,aV,rw'.append (aI.one r3)⟩))
  | val t=>cases hl
  | box xs=>cases hl
end
end Fw
namespace Fw
open PySem L2 PyProof.Rows
end Fw
namespace L2
open PySem PySem.Spec PyProof.Rows
def KIt(k:Bool)(h:Heap)(i l:Addr)(n:Nat):Prop:=match k with
 | true=>h.IsListIter i l n
 | false=>h.IsTupleIter i l n
def KSq(k:Bool)(h:Heap)(l:Addr)(xs:Array Value):Prop:=match k with
 | true=>h.IsList l xs
 | false=>h.IsTuple l xs
theorem KIt.at{k:Bool}{h h':Heap}{i l:Addr}{n:Nat}(x:KIt k h i l n)(e:∀o,h.get? i=some o→h'.get? i=some o):KIt k h' i l n:=by
 cases k with
 | true=>exact Heap.IsListIter.at x e
 | false=>exact Heap.IsTupleIter.at x e
theorem KSq.at{k:Bool}{h h':Heap}{l:Addr}{xs:Array Value}(x:KSq k h l xs)(e:∀o,h.get? l=some o→h'.get? l=some o):KSq k h' l xs:=by
 cases k with
 | true=>exact Heap.IsList.at x e
 | false=>exact Heap.IsTuple.at x e
theorem KIt.ob{k:Bool}{h:Heap}{i l:Addr}{n:Nat}(x:KIt k h i l n):∃o,h.get? i=some o∧o.data = .fields #[.ref l,.int n 0]:=by
 cases k with
 | true=>obtain⟨o,a,_,b⟩:=x;exact⟨o,a,b⟩
 | false=>obtain⟨o,a,_,b⟩:=x;exact⟨o,a,b⟩
section
variable{prog:Program}{w:World}{A:Around}{E:Value→Shared→Prop}{s:Shared}
theorem A4{it t:Addr}{i:Nat}{items:Array Value}{x:Value}{Q:Value→Shared→Prop}(hit:s.heap.IsTupleIter it t i)(ht:s.heap.IsTuple t items)(hx:items[i]?=some x)
  (hQ:∀h',h'.IsTupleIter it t (i+1)→Heap.SameBut it s.heap h'→Q x { s with heap:=h' }):wpAny (model prog w) A (Builtin.SmallTypes.nextOf (.ref it)) Q E s:=by
 obtain⟨⟨o,ho,hc,hd⟩,⟨ol,hol,_,nl,hdl⟩⟩:=And.intro (id hit) ht
 unfold Builtin.SmallTypes.nextOf
 refine wpAny_bind (wpAny_callSpecial?_slot (name:=Str.ofString "__next__") hit.typeIs F.slot_tuple_iterator_next (wpAny_call_entry F.slot_tuple_iterator_next hit.typeIs F.entry_tuple_iterator_next ?_ (F.args_tuple_iterator_next_1 _)))
 show wpAny _ _ (field (.ref it) 0>>=_) _ _ s;refine wpAny_bind (wpAny_field ho hd (x:=.ref t) rfl ?_)
 show wpAny _ _ (if (Value.ref t==Value.none)=true then _ else _) _ _ s;rw[if_neg (show ¬ ((Value.ref t==Value.none)=true) from Bool.false_ne_true)]
 show wpAny _ _ (field (.ref it) 1>>=_) _ _ s;refine wpAny_bind (wpAny_field ho hd (x:=.int i 0) rfl ?_)
 show wpAny _ _ (seqItems? (.ref t)>>=_) _ _ s;refine wpAny_bind (wpAny_seqItems hol hdl ?_)
 simp only[Int.toNat_natCast,hx];refine wpAny_bind (wpAny_setField ho hd (by simp) (wpAny_pure ⟨x,rfl,wpAny_pure (hQ _ ?_ (Heap.SameBut.update ..))⟩))
 exact⟨_,Heap.get?_update_self _ ho (Obj.isFreed_of_fields (Obj.data_mapFields hd _)),(Obj.cls_mapFields ..).trans hc,by rw[Obj.data_mapFields hd];simp[rawInt]⟩
theorem DU{it t:Addr}{i:Nat}{items:Array Value}{Q:Value→Shared→Prop}(hh:A.handled=none)(hit:s.heap.IsTupleIter it t i)(ht:s.heap.IsTuple t items)(hx:items[i]?=none)
  (hE:∀h' e,Heap.ExtBut it s.heap h'→(∃o,h'.get? e=some o∧o.cls = .type "StopIteration")→E (.ref e) { s with heap:=h' }):wpAny (model prog w) A (Builtin.SmallTypes.nextOf (.ref it)) Q E s:=by
 obtain⟨⟨o,ho,hc,hd⟩,⟨ol,hol,_,nl,hdl⟩⟩:=And.intro (id hit) ht
 unfold Builtin.SmallTypes.nextOf
 refine wpAny_bind (wpAny_callSpecial?_slot (name:=Str.ofString "__next__") hit.typeIs F.slot_tuple_iterator_next (wpAny_call_entry F.slot_tuple_iterator_next hit.typeIs F.entry_tuple_iterator_next ?_ (F.args_tuple_iterator_next_1 _)))
 show wpAny _ _ (field (.ref it) 0>>=_) _ _ s;refine wpAny_bind (wpAny_field ho hd (x:=.ref t) rfl ?_)
 show wpAny _ _ (if (Value.ref t==Value.none)=true then _ else _) _ _ s;rw[if_neg (show ¬ ((Value.ref t==Value.none)=true) from Bool.false_ne_true)]
 show wpAny _ _ (field (.ref it) 1>>=_) _ _ s;refine wpAny_bind (wpAny_field ho hd (x:=.int i 0) rfl ?_)
 show wpAny _ _ (seqItems? (.ref t)>>=_) _ _ s;refine wpAny_bind (wpAny_seqItems hol hdl ?_)
 simp only[Int.toNat_natCast,hx];refine wpAny_bind (wpAny_rule (wpAny_bind (wpAny_setField ho hd (by simp) ?_)))
 show wpAny _ _ (newExc (.type "StopIteration") []>>=_) _ _ _;refine wpAny_bind ?_
 simp only[newExc,newTuple];refine wpAny_bind (wpAny_newObj_type ?_ (by size_fits))
 refine wpAny_bind (m:=firstArgMember _ _) (wpAny_of_eq (a:=Value.none) (by first|rfl|(simp only[firstArgMember];rfl)) ?_);refine wpAny_newObj_type ?_ (by size_fits)
 simp only[raiseNew];refine wpAny_bind (wpAny_handled ?_);first|rw[show A.in1.handled=none from hh]|rw[hh]
 refine wpAny_bind (wpAny_pure (wpAny_throw ?_));exact hE _ _ (((Heap.SameBut.update ..).extBut.push _).push _) ⟨_,Heap.get?_push_size _ rfl,rfl⟩
theorem eM{k:Bool}{it t:Addr}{i:Nat}{items:Array Value}{x:Value}{Q:Value→Shared→Prop}(hit:KIt k s.heap it t i)(ht:KSq k s.heap t items)(hx:items[i]?=some x)
  (hQ:∀h',KIt k h' it t (i+1)→Heap.SameBut it s.heap h'→Q x { s with heap:=h' }):wpAny (model prog w) A (Builtin.SmallTypes.nextOf (.ref it)) Q E s:=by
 cases k with
 | true=>exact wpAny_nextOf_list_item hit ht hx hQ
 | false=>exact A4 hit ht hx hQ
theorem ji{k:Bool}{it t:Addr}{i:Nat}{items:Array Value}{Q:Value→Shared→Prop}(hh:A.handled=none)(hit:KIt k s.heap it t i)(ht:KSq k s.heap t items)(hx:items[i]?=none)
  (hE:∀h' e,Heap.ExtBut it s.heap h'→(∃o,h'.get? e=some o∧o.cls = .type "StopIteration")→E (.ref e) { s with heap:=h' }):wpAny (model prog w) A (Builtin.SmallTypes.nextOf (.ref it)) Q E s:=by
 cases k with
 | true=>exact wpAny_nextOf_list_end hh hit ht hx hE
 | false=>exact DU hh hit ht hx hE
theorem DV{k1 k2:Bool}{z TI TO i1 i2 l1 l2:Addr}{n1 n2:Nat}{xs ys:Array Value}{x y a b:Value}{Q:Value→Shared→Prop}(D:ZipApart z TI TO i1 i2 l1 l2)
  (hz:IsZip s.heap z TI TO .none) (hTI:IsPair s.heap TI (.ref i1) (.ref i2)) (hTO:IsPair s.heap TO a b) (h1:KIt k1 s.heap i1 l1 n1) (h2:KIt k2 s.heap i2 l2 n2) (hl1:KSq k1 s.heap l1 xs) (hl2:KSq k2 s.heap l2 ys) (hx:xs[n1]?=some x) (hy:ys[n2]?=some y)
  (hQ:∀h',IsZip h' z TI TO (rawInt s.heap.objs.size)→IsPair h' TO x y→KIt k1 h' i1 l1 (n1+1)→KIt k2 h' i2 l2 (n2+1)→IsPair h' s.heap.objs.size x y→h'.objs.size=s.heap.objs.size+1 →
   (∀c o,c≠z→c≠TO→c≠i1→c≠i2→s.heap.get? c=some o→h'.get? c=some o)→Q (.ref s.heap.objs.size) { s with heap:=h' }) :
  wpAny (model prog w) A (Builtin.«zip.__next__» ⟨[.ref z],[]⟩) (λfin s'=>∃v,fin = .done (.ret v)∧Q v s') E s:=by
 show wpAny _ _ (field (.ref z) 2>>=_) _ _ _;refine wpAny_bind (wpAny_field hz rfl (x:=.bool false) rfl ?_)
 show wpAny _ _ (field (.ref z) 3>>=_) _ _ _;refine wpAny_bind (wpAny_field hz rfl (x:=.ref TI) rfl ?_)
 refine wpAny_bind (wpAny_seqItems hTI rfl ?_);show wpAny _ _ (Builtin.SmallTypes.ownedTupleIsFree (.ref z)>>=_) _ _ _;refine wpAny_bind ?_
 unfold Builtin.SmallTypes.ownedTupleIsFree;refine wpAny_bind (wpAny_field hz rfl (x:=.none) rfl (wpAny_pure ?_))
 simp only[if_true];refine wpAny_bind (wpAny_rule ?_);refine wpAny_bind (wpAny_field hz rfl (x:=.ref TO) rfl ?_)
 refine wpAny_bind (wpAny_setField_rec hz (by simp) λg₁ hz₁ hs₁=>?_);replace hz₁:IsZip g₁ z TI TO .ellipsis:=hz₁
 refine wpAny_bind ?_;simp only[List.zipIdx_cons,List.zipIdx_nil,List.forIn_cons,List.forIn_nil];refine wpAny_bind (wpAny_bind (wpAny_onRaise ?_))
 show wpAny _ _ (Builtin.SmallTypes.nextOf (.ref i1)>>=_) _ _ _
 refine wpAny_bind (eM (h1.at λo e=>hs₁.extBut _ _ D.i1z e) (hl1.at λo e=>hs₁.extBut _ _ D.l1z e) hx λg₂ h1₂ hs₂=>wpAny_pure ?_)
 have hTO₂:IsPair g₂ TO a b:=hs₂.extBut _ _ D.TOi1 (hs₁.extBut _ _ D.TOz hTO)
 refine wpAny_bind (wpAny_seqItems hTO₂ rfl ?_);refine wpAny_bind (wpAny_updateSeq_pair hTO₂ λg₃ hTO₃ hs₃=>?_)
 replace hTO₃:IsPair g₃ TO x b:=hTO₃;refine wpAny_bind (wpAny_letGo (wpAny_pure ?_));refine wpAny_bind (wpAny_bind (wpAny_onRaise ?_))
 show wpAny _ _ (Builtin.SmallTypes.nextOf (.ref i2)>>=_) _ _ _
 refine wpAny_bind (eM (h2.at λo e=>hs₃.extBut _ _ D.TOi2.symm (hs₂.extBut _ _ D.i12.symm (hs₁.extBut _ _ D.i2z e))) (hl2.at λo e=>hs₃.extBut _ _ D.l2TO (hs₂.extBut _ _ D.l2i1 (hs₁.extBut _ _ D.l2z e))) hy λg₄ h2₄ hs₄=>wpAny_pure ?_)
 have hTO₄:IsPair g₄ TO x b:=hs₄.extBut _ _ D.TOi2 hTO₃
 refine wpAny_bind (wpAny_seqItems hTO₄ rfl ?_);refine wpAny_bind (wpAny_updateSeq_pair hTO₄ λg₅ hTO₅ hs₅=>?_)
 replace hTO₅:IsPair g₅ TO x y:=hTO₅;refine wpAny_bind (wpAny_letGo (wpAny_pure (wpAny_pure ?_)))
 refine wpAny_bind (wpAny_seqItems hTO₅ rfl ?_);refine wpAny_bind (wpAny_newTuple ?_)
 have hsz:g₅.objs.size=s.heap.objs.size:=by rw[hs₅.1,hs₄.1,hs₃.1,hs₂.1,hs₁.1]
 have hz₅:IsZip g₅ z TI TO .ellipsis:=hs₅.extBut _ _ D.TOz.symm (hs₄.extBut _ _ D.i2z.symm (hs₃.extBut _ _ D.TOz.symm (hs₂.extBut _ _ D.i1z.symm hz₁)))
 have hk₅:∀c o,c≠z→c≠TO→c≠i1→c≠i2→s.heap.get? c=some o→g₅.get? c=some o:=λc o c1 c2 c3 c4 e=>hs₅.extBut _ _ c2 (hs₄.extBut _ _ c4 (hs₃.extBut _ _ c2 (hs₂.extBut _ _ c3 (hs₁.extBut _ _ c1 e))))
 have h1₅:KIt k1 g₅ i1 l1 (n1+1):=h1₂.at λo e=>hs₅.extBut _ _ D.TOi1.symm (hs₄.extBut _ _ D.i12 (hs₃.extBut _ _ D.TOi1.symm e))
 have h2₅:KIt k2 g₅ i2 l2 (n2+1):=h2₄.at λo e=>hs₅.extBut _ _ D.TOi2.symm e
 have Gw:z<g₅.objs.size:=Heap.lt_size hz₅
 show wpAny _ _ (Builtin.SmallTypes.ownedTupleHandOut (.ref z) (.ref g₅.objs.size)>>=_) _ _ _;refine wpAny_bind ?_
 unfold Builtin.SmallTypes.ownedTupleHandOut
 have hz₆:IsZip (g₅.push { cls:=.type "tuple",data:=.seq #[x,y] }) z TI TO .ellipsis:=Heap.get?_push_of_some _ hz₅
 refine wpAny_bind (wpAny_setField_rec hz₆ (by simp) λg₇ hz₇ hs₇=>?_);replace hz₇:IsZip g₇ z TI TO (rawInt g₅.objs.size):=hz₇
 refine wpAny_setField_rec hz₇ (by simp) λg₈ hz₈ hs₈=>?_
 replace hz₈:IsZip g₈ z TI TO (rawInt g₅.objs.size):=hz₈
 have up:∀c o,c≠z→g₅.get? c=some o→g₈.get? c=some o:=λc o c1 e=>hs₈.extBut _ _ c1 (hs₇.extBut _ _ c1 (Heap.get?_push_of_some _ e))
 have hT₈:IsPair g₈ g₅.objs.size x y:=hs₈.extBut _ _ (Nat.ne_of_gt Gw) (hs₇.extBut _ _ (Nat.ne_of_gt Gw) (Heap.get?_push_size _ rfl))
 have hz8:g₈.objs.size=g₅.objs.size+1:=by rw[hs₈.1,hs₇.1,Heap.size_push]
 rw[hsz] at hz₈ hT₈ hz8
 refine wpAny_pure ⟨_,rfl,?_⟩
 show Q (.ref g₅.objs.size) _
 rw[hsz]
 exact hQ g₈ hz₈ (up _ _ D.TOz hTO₅) (h1₅.at λo e=>up _ o D.i1z e) (h2₅.at λo e=>up _ o D.i2z e) hT₈ hz8 λc o c1 c2 c3 c4 e=>up c o c1 (hk₅ c o c1 c2 c3 c4 e)
theorem Gx{k1 k2:Bool}{z TI TO i1 i2 l1 l2:Addr}{n1 n2:Nat}{xs ys:Array Value}{a b:Value}{Q:Fin→Shared→Prop}(hh:A.handled=none)(D:ZipApart z TI TO i1 i2 l1 l2)
  (hz:IsZip s.heap z TI TO .none) (hTI:IsPair s.heap TI (.ref i1) (.ref i2)) (hTO:IsPair s.heap TO a b) (h1:KIt k1 s.heap i1 l1 n1) (h2:KIt k2 s.heap i2 l2 n2) (hl1:KSq k1 s.heap l1 xs) (hl2:KSq k2 s.heap l2 ys) (ox:xs[n1]?=none∨ys[n2]?=none)
  (hE:∀h' e,(∀c o,c≠z→c≠TO→c≠i1→c≠i2→s.heap.get? c=some o→h'.get? c=some o)→(∃o,h'.get? e=some o∧o.cls = .type "StopIteration")→E (.ref e) { s with heap:=h' }) :
  wpAny (model prog w) A (Builtin.«zip.__next__» ⟨[.ref z],[]⟩) Q E s:=by
 show wpAny _ _ (field (.ref z) 2>>=_) _ _ _;refine wpAny_bind (wpAny_field hz rfl (x:=.bool false) rfl ?_)
 show wpAny _ _ (field (.ref z) 3>>=_) _ _ _;refine wpAny_bind (wpAny_field hz rfl (x:=.ref TI) rfl ?_)
 refine wpAny_bind (wpAny_seqItems hTI rfl ?_);show wpAny _ _ (Builtin.SmallTypes.ownedTupleIsFree (.ref z)>>=_) _ _ _;refine wpAny_bind ?_
 unfold Builtin.SmallTypes.ownedTupleIsFree;refine wpAny_bind (wpAny_field hz rfl (x:=.none) rfl (wpAny_pure ?_))
 simp only[if_true];refine wpAny_bind (wpAny_rule ?_);refine wpAny_bind (wpAny_field hz rfl (x:=.ref TO) rfl ?_)
 refine wpAny_bind (wpAny_setField_rec hz (by simp) λg₁ hz₁ hs₁=>?_);replace hz₁:IsZip g₁ z TI TO .ellipsis:=hz₁
 refine wpAny_bind ?_;simp only[List.zipIdx_cons,List.zipIdx_nil,List.forIn_cons,List.forIn_nil];refine wpAny_bind (wpAny_bind (wpAny_onRaise ?_))
 show wpAny _ _ (Builtin.SmallTypes.nextOf (.ref i1)>>=_) _ _ _
 have h1':=h1.at λo e=>hs₁.extBut _ _ D.i1z e
 have Gy:=hl1.at λo e=>hs₁.extBut _ _ D.l1z e
 cases hx:xs[n1]? with
 | none =>
  refine wpAny_bind (ji hh h1' Gy hx λg₂ e hs₂ he=>?_)
  obtain⟨oe,hoe,hce⟩:=he
  have hz₂:IsZip g₂ z TI TO .ellipsis:=hs₂ _ _ D.i1z.symm hz₁
  have hez:e≠z:=λq=>by subst q;rw[hz₂] at hoe;cases hoe;simp at hce
  exact wpAny_setField_rec hz₂ (by simp) λg₃ _ hs₃=>hE g₃ e (λc o c1 _ c3 _ q=>hs₃.extBut _ _ c1 (hs₂ _ _ c3 (hs₁.extBut _ _ c1 q))) ⟨oe,hs₃.extBut _ _ hez hoe,hce⟩
 | some x =>
  have hy:ys[n2]?=none:=by
   rcases ox with h|h
   ·rw[hx] at h;cases h
   ·exact h
  refine wpAny_bind (eM h1' Gy hx λg₂ h1₂ hs₂=>wpAny_pure ?_)
  have hTO₂:IsPair g₂ TO a b:=hs₂.extBut _ _ D.TOi1 (hs₁.extBut _ _ D.TOz hTO)
  refine wpAny_bind (wpAny_seqItems hTO₂ rfl ?_);refine wpAny_bind (wpAny_updateSeq_pair hTO₂ λg₃ hTO₃ hs₃=>?_)
  refine wpAny_bind (wpAny_letGo (wpAny_pure ?_));refine wpAny_bind (wpAny_bind (wpAny_onRaise ?_))
  show wpAny _ _ (Builtin.SmallTypes.nextOf (.ref i2)>>=_) _ _ _
  refine wpAny_bind (ji hh (h2.at λo e=>hs₃.extBut _ _ D.TOi2.symm (hs₂.extBut _ _ D.i12.symm (hs₁.extBut _ _ D.i2z e))) (hl2.at λo e=>hs₃.extBut _ _ D.l2TO (hs₂.extBut _ _ D.l2i1 (hs₁.extBut _ _ D.l2z e))) hy λg₄ e hs₄ he=>?_)
  obtain⟨oe,hoe,hce⟩:=he
  have hz₄:IsZip g₄ z TI TO .ellipsis:=hs₄ _ _ D.i2z.symm (hs₃.extBut _ _ D.TOz.symm (hs₂.extBut _ _ D.i1z.symm hz₁))
  have hez:e≠z:=λq=>by subst q;rw[hz₄] at hoe;cases hoe;simp at hce
  exact wpAny_setField_rec hz₄ (by simp) λg₅ _ hs₅=>hE g₅ e (λc o c1 c2 c3 c4 q=>hs₅.extBut _ _ c1 (hs₄ _ _ c4 (hs₃.extBut _ _ c2 (hs₂.extBut _ _ c3 (hs₁.extBut _ _ c1 q))))) ⟨oe,hs₅.extBut _ _ hez hoe,hce⟩
theorem xy{k1 k2:Bool}{z TI TO i1 i2 l1 l2:Addr}{n1 n2:Nat}{xs ys:Array Value}{x y a b:Value}{Q:Option Value→Shared→Prop}(D:ZipApart z TI TO i1 i2 l1 l2)
  (hz:IsZip s.heap z TI TO .none) (hTI:IsPair s.heap TI (.ref i1) (.ref i2)) (hTO:IsPair s.heap TO a b) (h1:KIt k1 s.heap i1 l1 n1) (h2:KIt k2 s.heap i2 l2 n2) (hl1:KSq k1 s.heap l1 xs) (hl2:KSq k2 s.heap l2 ys) (hx:xs[n1]?=some x) (hy:ys[n2]?=some y)
  (hQ:∀h',IsZip h' z TI TO (rawInt s.heap.objs.size)→IsPair h' TO x y→KIt k1 h' i1 l1 (n1+1)→KIt k2 h' i2 l2 (n2+1)→IsPair h' s.heap.objs.size x y→h'.objs.size=s.heap.objs.size+1 →
   (∀c o,c≠z→c≠TO→c≠i1→c≠i2→s.heap.get? c=some o→h'.get? c=some o)→Q (some (.ref s.heap.objs.size)) { s with heap:=h' }):wpAny (model prog w) A (pyNext (.ref z)) Q E s:=by
 have hT:s.TypeIs (.ref z) "zip":=⟨_,hz,rfl⟩
 unfold pyNext
 exact wpAny_bind (wpAny_attempt (wpAny_callSpecial?_slot (name:=Str.ofString "__next__") hT F.slot_zip_next (wpAny_call_entry F.slot_zip_next hT F.entry_zip_next
  (DV D hz hTI hTO h1 h2 hl1 hl2 hx hy λh' a1 a2 a3 a4 a5 a6 a7=>wpAny_pure (hQ h' a1 a2 a3 a4 a5 a6 a7)) (F.args_zip_next_1 _))))
theorem zw{k1 k2:Bool}{z TI TO i1 i2 l1 l2:Addr}{n1 n2:Nat}{xs ys:Array Value}{a b:Value}{Q:Option Value→Shared→Prop}(hh:A.handled=none)(D:ZipApart z TI TO i1 i2 l1 l2)
  (hz:IsZip s.heap z TI TO .none) (hTI:IsPair s.heap TI (.ref i1) (.ref i2)) (hTO:IsPair s.heap TO a b) (h1:KIt k1 s.heap i1 l1 n1) (h2:KIt k2 s.heap i2 l2 n2) (hl1:KSq k1 s.heap l1 xs) (hl2:KSq k2 s.heap l2 ys) (ox:xs[n1]?=none∨ys[n2]?=none)
  (hQ:∀h',(∀c o,c≠z→c≠TO→c≠i1→c≠i2→s.heap.get? c=some o→h'.get? c=some o)→Q none { s with heap:=h' }):wpAny (model prog w) A (pyNext (.ref z)) Q E s:=by
 have hT:s.TypeIs (.ref z) "zip":=⟨_,hz,rfl⟩
 unfold pyNext
 refine wpAny_bind (wpAny_attempt (wpAny_callSpecial?_slot (name:=Str.ofString "__next__") hT F.slot_zip_next (wpAny_call_entry F.slot_zip_next hT F.entry_zip_next (Gx hh D hz hTI hTO h1 h2 hl1 hl2 ox λh' e hk he=>?_) (F.args_zip_next_1 _))))
 obtain⟨o,ho,hc⟩:=he
 refine wpAny_bind (wpAny_isInstance (T:="StopIteration") (b:=true) ⟨o,ho,hc⟩ isSubtype_stop ?_);exact wpAny_pure (hQ _ hk)
end
def bZ(k:Bool)(l:Addr):Obj:={ cls:=.type (if k then "list_iterator" else "tuple_iterator"),data:=.fields #[.ref l,.int 0 0] }
noncomputable abbrev zH2 (k1 k2 : Bool) (h : Heap) (l1 l2 : Addr) : Heap := (h.push (bZ k1 l1)).push (bZ k2 l2)
noncomputable abbrev zH4 (k1 k2 : Bool) (h : Heap) (l1 l2 : Addr) : Heap := ((zH2 k1 k2 h l1 l2).push { cls := .type "tuple", data := .seq #[.ref h.objs.size, .ref (h.push (bZ k1 l1)).objs.size] }).push { cls := .type "tuple", data := .seq #[.none, .none] }
noncomputable abbrev zH5 (k1 k2 : Bool) (h : Heap) (l1 l2 : Addr) : Heap := (zH4 k1 k2 h l1 l2).push { cls := .type "zip", data := .fields #[.none, .bool false, .bool false, .ref (zH2 k1 k2 h l1 l2).objs.size, .ref ((zH2 k1 k2 h l1 l2).push { cls := .type "tuple", data := .seq #[.ref h.objs.size, .ref (h.push (bZ k1 l1)).objs.size] }).objs.size] }
set_option maxHeartbeats 4000000 in
theorem JA(k1 k2:Bool)(l1 l2:Addr)(xs ys:Array Value) :
  Meets (Builtin.«zip.__new__» ⟨[.type "zip",.ref l1,.ref l2],[]⟩) (λ_ R s=>KSq k1 s.heap l1 xs∧KSq k2 s.heap l2 ys∧R (.ok (.ret (.ref (zH4 k1 k2 s.heap l1 l2).objs.size))) { s with heap:=zH5 k1 k2 s.heap l1 l2 }) :=
 .of_wp λprog w A R s h=>by
  obtain⟨hp,g,d,tk,os⟩:=s;obtain⟨hl1,hl2,h⟩:=h
  have zp:=sub_zip
  cases k1 with
  | true =>
   have hL1:Heap.IsList (Shared.heap ⟨hp,g,d,tk,os⟩) l1 xs:=hl1
   cases k2 with
   | true =>
    have hL2:Heap.IsList (Shared.heap ⟨hp.push { cls:=.type "list_iterator",data:=.fields #[.ref l1,.int 0 0] },g,d,tk,os⟩) l2 ys:=Heap.IsList.push hl2 _
    wp_walk using wpAny_pyIter_list hL1,wpAny_pyIter_list hL2
    exact⟨_,rfl,h⟩
   | false =>
    have hL2:Heap.IsTuple (Shared.heap ⟨hp.push { cls:=.type "list_iterator",data:=.fields #[.ref l1,.int 0 0] },g,d,tk,os⟩) l2 ys:=Heap.IsTuple.push hl2 _
    wp_walk using wpAny_pyIter_list hL1,wpAny_pyIter_tuple hL2
    exact⟨_,rfl,h⟩
  | false =>
   have hL1:Heap.IsTuple (Shared.heap ⟨hp,g,d,tk,os⟩) l1 xs:=hl1
   cases k2 with
   | true =>
    have hL2:Heap.IsList (Shared.heap ⟨hp.push { cls:=.type "tuple_iterator",data:=.fields #[.ref l1,.int 0 0] },g,d,tk,os⟩) l2 ys:=Heap.IsList.push hl2 _
    wp_walk using wpAny_pyIter_tuple hL1,wpAny_pyIter_list hL2
    exact⟨_,rfl,h⟩
   | false =>
    have hL2:Heap.IsTuple (Shared.heap ⟨hp.push { cls:=.type "tuple_iterator",data:=.fields #[.ref l1,.int 0 0] },g,d,tk,os⟩) l2 ys:=Heap.IsTuple.push hl2 _
    wp_walk using wpAny_pyIter_tuple hL1,wpAny_pyIter_tuple hL2
    exact⟨_,rfl,h⟩
theorem KIt.new{k:Bool}{h:Heap}{i l:Addr}(e:h.get? i=some (bZ k l)):KIt k h i l 0:=by
 cases k with
 | true=>exact⟨_,e,rfl,rfl⟩
 | false=>exact⟨_,e,rfl,rfl⟩
section
variable{prog:Program}{w:World}{A:Around}{E:Value→Shared→Prop}{s:Shared}
theorem DW{k1 k2:Bool}{l1 l2:Addr}{xs ys:Array Value}{Q:Value→Shared→Prop}(hl1:KSq k1 s.heap l1 xs)(hl2:KSq k2 s.heap l2 ys)
  (h:∀h',IsZip h' (s.heap.objs.size+4) (s.heap.objs.size+2) (s.heap.objs.size+3) .none→IsPair h' (s.heap.objs.size+2) (.ref s.heap.objs.size) (.ref (s.heap.objs.size+1))→IsPair h' (s.heap.objs.size+3) .none .none →
   KIt k1 h' s.heap.objs.size l1 0→KIt k2 h' (s.heap.objs.size+1) l2 0→h'.objs.size=s.heap.objs.size+5→(∀c o,s.heap.get? c=some o→h'.get? c=some o)→Q (.ref (s.heap.objs.size+4)) { s with heap:=h' }) :
  wpAny (model prog w) A (call (.type "zip") [.ref l1,.ref l2]) Q E s:=by
 refine callType_new F.called_zip (by decide) (F.typeCall_zip_2 _ _) (F.newCall_zip_2 _ _) (λobj=>F.args_object_init_3 obj _ _) F.entry_zip_new (JA k1 k2 l1 l2 xs ys) ⟨hl1,hl2,?_⟩
 have z1:(s.heap.push (bZ k1 l1)).objs.size=s.heap.objs.size+1:=Heap.size_push ..
 have z2:(zH2 k1 k2 s.heap l1 l2).objs.size=s.heap.objs.size+2:=by rw[Heap.size_push,z1]
 have z3:((zH2 k1 k2 s.heap l1 l2).push { cls:=.type "tuple",data:=.seq #[.ref s.heap.objs.size,.ref (s.heap.push (bZ k1 l1)).objs.size] }).objs.size=s.heap.objs.size+3:=by rw[Heap.size_push,z2]
 have z4:(zH4 k1 k2 s.heap l1 l2).objs.size=s.heap.objs.size+4:=by rw[Heap.size_push,z3]
 have z5:(zH5 k1 k2 s.heap l1 l2).objs.size=s.heap.objs.size+5:=by rw[Heap.size_push,z4]
 have g5:(zH5 k1 k2 s.heap l1 l2).get? (zH4 k1 k2 s.heap l1 l2).objs.size=some _:=Heap.get?_push_size _ rfl
 have g4:(zH5 k1 k2 s.heap l1 l2).get? ((zH2 k1 k2 s.heap l1 l2).push { cls:=.type "tuple",data:=.seq #[.ref s.heap.objs.size,.ref (s.heap.push (bZ k1 l1)).objs.size] }).objs.size=some _:=Heap.get?_push_of_some _ (Heap.get?_push_size _ rfl)
 have g3:(zH5 k1 k2 s.heap l1 l2).get? (zH2 k1 k2 s.heap l1 l2).objs.size=some _:=Heap.get?_push_of_some _ (Heap.get?_push_of_some _ (Heap.get?_push_size _ rfl))
 have g2:(zH5 k1 k2 s.heap l1 l2).get? (s.heap.push (bZ k1 l1)).objs.size=some (bZ k2 l2):=Heap.get?_push_of_some _ (Heap.get?_push_of_some _ (Heap.get?_push_of_some _ (Heap.get?_push_size _ rfl)))
 have g1:(zH5 k1 k2 s.heap l1 l2).get? s.heap.objs.size=some (bZ k1 l1):=Heap.get?_push_of_some _ (Heap.get?_push_of_some _ (Heap.get?_push_of_some _ (Heap.get?_push_of_some _ (Heap.get?_push_size _ rfl))))
 show _∧_
 rw[z2,z3,z4] at g5;rw[z1,z2] at g3;rw[z3] at g4;rw[z1] at g2;rw[z4]
 exact⟨⟨_,g5,rfl⟩,h _ g5 g3 g4 (KIt.new g1) (KIt.new g2) z5 λc o q =>
  Heap.get?_push_of_some _ (Heap.get?_push_of_some _ (Heap.get?_push_of_some _ (Heap.get?_push_of_some _ (Heap.get?_push_of_some _ q))))⟩
end
end L2
namespace L2
open PySem PySem.Spec PyProof.Rows
def fg(K:PySem.W.Frag)(k:Bool)(H:Hp)(a:Addr)(xs:List V):Prop:=match k with
 | true=>SqL K H a xs
 | false=>SqT K H a xs
theorem Inv.ksq{X:Cx}{pins:List (Addr×Obj)}{σ:L2.St}{H:Hp}{s:Shared}{k:Bool}{a:Addr}{xs:List V}(I:Inv X pins σ H s)(h:fg X.K k H a xs):∃its:List Value,Vals xs its∧KSq k s.heap a its.toArray∧xs.length≤sizeLine:=by
 cases k with
 | true=>obtain⟨its,r,p,z⟩:=I.list h;exact⟨its,r,p.isList,z⟩
 | false=>obtain⟨its,r,p,z⟩:=I.tuple h;exact⟨its,r,p,z⟩
theorem Inv.nD{X:Cx}{pins:List (Addr×Obj)}{σ:L2.St}{H:Hp}{s:Shared}{k:Bool}{a:Addr}{xs ys:List V}(I:Inv X pins σ H s)(h:fg X.K k H a xs)(h':fg X.K k H a ys):xs=ys:=by
 cases k with
 | true=>exact I.yE h h'
 | false=>exact I.vR h h'
def Itz(K:PySem.W.Frag)(k1 k2:Bool)(a b:Addr):It :=
 ⟨λi H=>∃xs ys x y,fg K k1 H a xs∧fg K k2 H b ys∧xs[i]?=some x∧ys[i]?=some y,
  λi H v H'=>∃p x y,v = .ref p∧H p=none∧H'=upd H p (.tup [x,y])∧(∀xs,fg K k1 H a xs→xs[i]?=some x)∧∀ys,fg K k2 H b ys→ys[i]?=some y,
  λi H=>∃xs ys,fg K k1 H a xs∧fg K k2 H b ys∧(xs.length≤i∨ys.length≤i)⟩
theorem fO{X:Cx}{pins:List (Addr×Obj)}{σ:L2.St}{H:Hp}{s:Shared}{k:Bool}{a c:Addr}{xs:List V}(I:Inv X pins σ H s)(h:fg X.K k H a xs)(hf:lO X pins H c):a≠c:=λe=>by
 subst e
 have key:∀o,X.K.lookup a=some o→False:=λo hk=>by
  have hb:=I.ok.mod.kin a o hk
  rcases hf.2.2.2.1 with z|z
  ·exact I.ok.wO a o hb z
  ·exact absurd (Nat.lt_of_lt_of_le (Heap.lt_size hb) (Nat.le_trans I.ok.bsz z)) (Nat.lt_irrefl _)
 cases k with
 | true =>
  rcases h with (h|⟨o,h⟩)|⟨o,its,n,hk,_⟩
  ·rw[hf.1] at h;cases h
  ·rw[hf.1] at h;cases h
  ·exact key o hk
 | false =>
  rcases h with (h|⟨o,h⟩)|⟨o,its,n,hk,_⟩
  ·rw[hf.1] at h;cases h
  ·rw[hf.1] at h;cases h
  ·exact key o hk
section
variable{X:Cx}{pins:List (Addr×Obj)}{σ:L2.St}{H:Hp}{s:Shared}{h':Heap}{ch:List Addr}
theorem Cm{b:Addr}{u o:HO}{H':Hp}{tr:Addr}(I:Inv X pins σ H s)(k:∀b o,b∉ch→s.heap.get? b=some o→h'.get? b=some o)(hf:∀b∈ch,lO X pins H b)(e:H b=some u)
  (ho:∀c,H c=some (.own b)→H' c=some (.own b)) (ht:∀c xs,H c=some (.tup xs)→H' c=some (.tup xs)):dI X.prog X.w H' h' b u:=by
 refine (I.hok b u e).rS (λc v hc q=>k c v (λz=>?_) q) ho ht
 have hn:=(hf c z).1
 rcases hc with rfl|hc
 ·rw[hn] at e;cases e
 ·rw[hn] at hc;cases hc
theorem Inv.sG{t':Nat}(I:Inv X pins σ H s)(k:∀b o,b∉ch→s.heap.get? b=some o→h'.get? b=some o)(hf:∀b∈ch,lO X pins H b):Inv X pins σ H { s with heap:=h',toks:=t' }:=by
 refine I.step (g':=s.gens) (d':=s.drawn) (ch:=ch) (λb hb=>⟨(hf b hb).2.2.2.1,(hf b hb).2.1,(hf b hb).2.2.2.2.1,(hf b hb).2.2.2.2.2⟩) (λb o _ _ hc e _=>k b o hc e) (λb o _ _ hc e _=>⟨o.slots,k b o hc e⟩) (λ_ _ _ _ n=>n)
  (λb o hc e=>⟨o,k b o hc e⟩) (λ_ _ e=>e) (λ_ _ _ e=>e) (λb ps e=>⟨#[],by rw[e];simp⟩) (λm hm=>?_) (λb u e=>Cm (o:=u) (tr:=b) I k hf e (λ_ q=>q) λ_ _ q=>q) I.bare
 obtain⟨o,es,ep,ho,r⟩:=hm
 exact⟨o,es,ep,k _ o (λz=>(hf _ z).2.1 rfl) ho,r⟩
theorem Inv.sH{o:HO}(I:Inv X pins σ H s)(k:∀b o,b∉ch→s.heap.get? b=some o→h'.get? b=some o)(hf:∀b∈ch,lO X pins H b)(new:dI X.prog X.w (upd H s.heap.objs.size o) h' s.heap.objs.size o) :
  Inv X pins σ (upd H s.heap.objs.size o) { s with heap:=h' }:=by
 have hn:H s.heap.objs.size=none:=I.hok.fresh (Nat.le_refl _)
 have ne:∀{b:Addr}{ob:Obj},s.heap.get? b=some ob→b≠s.heap.objs.size:=λe=>Nat.ne_of_lt (Heap.lt_size e)
 refine I.step (g':=s.gens) (d':=s.drawn) (t':=s.toks) (ch:=ch) (λb hb=>⟨(hf b hb).2.2.2.1,(hf b hb).2.1,(hf b hb).2.2.2.2.1,(hf b hb).2.2.2.2.2⟩) (λb o _ _ hc e _=>k b o hc e) (λb o _ _ hc e _=>⟨o.slots,k b o hc e⟩) (λb ob _ e n=>by rw[aQ (ne e)];exact n)
  (λb o hc e=>⟨o,k b o hc e⟩) (λb xs q=>by rw[aQ (d9 q hn)];exact q) (λb u xs q=>by rw[aQ (d9 q hn)];exact q) (λb ps q=>⟨#[],by rw[aQ (d9 q hn),q];simp⟩) (λm hm=>?_) (λb u e=>?_) I.bare
 ·obtain⟨o,es,ep,ho,r⟩:=hm
  exact⟨o,es,ep,k _ o (λz=>(hf _ z).2.1 rfl) ho,r⟩
 ·by_cases hb:b=s.heap.objs.size
  ·subst hb;rw[aV] at e;cases e;exact new
  ·rw[aQ hb] at e
   exact Cm (o:=u) (tr:=b) I k hf e (λc q=>by rw[aQ (d9 q hn)];exact q) λc xs q=>by rw[aQ (d9 q hn)];exact q
end
structure ZSt(k1 k2:Bool)(z TI TO i1 i2 l1 l2:Addr)(i:Nat)(h:Heap):Prop where
 z:IsZip h z TI TO .none
 ti:IsPair h TI (.ref i1) (.ref i2)
 to:∃a b,IsPair h TO a b
 one:KIt k1 h i1 l1 i
 two:KIt k2 h i2 l2 i
theorem OO{P:Addr→Prop}{a b c d e:Addr}(h1:P a)(h2:P b)(h3:P c)(h4:P d)(h5:P e):∀x∈[a,b,c,d,e],P x:=by
 simp[h1,h2,h3,h4,h5]
theorem Kw{a b c d e x:Addr}(h:x∈[a,c,d,e]):x∈[a,b,c,d,e]:=by
 simp at h ⊢
 rcases h with h|h|h|h<;>simp[h]
theorem OP{a b c d x:Addr}(h:x∉[a,b,c,d]):x≠a∧x≠b∧x≠c∧x≠d:=by
 simpa using h
theorem Gz {P : Program} {w : World} {K : PySem.W.Frag} {elts : List Expr} {x1 : Nat} {pos : Pos} {k1 k2 : Bool} {z TI TO i1 i2 l1 l2 : Addr} (d1 : TI ≠ TO) (d2 : i1 ≠ i2) :
    Turn P w K (.Tuple elts x1 pos) (Itz K k1 k2 l1 l2) [z, TI, TO, i1, i2] z (ZSt k1 k2 z TI TO i1 i2 l1 l2) := by
  have ap : ∀ {X : Cx} {pins : List (Addr × Obj)} {σ : L2.St} {H : Hp} {s : Shared} {i : Nat} {xs ys : List V}, X.K = K → Inv X pins σ H s → (∀ b ∈ [z, TI, TO, i1, i2], lO X pins H b) → ZSt k1 k2 z TI TO i1 i2 l1 l2 i s.heap → fg K k1 H l1 xs → fg K k2 H l2 ys → ZipApart z TI TO i1 i2 l1 l2 := by
    intro X pins σ H s i xs ys hK I hf st h1 h2
    subst hK
    obtain ⟨a, b, hto⟩ := st.to
    obtain ⟨o1, e1, q1⟩ := st.one.ob
    obtain ⟨o2, e2, q2⟩ := st.two.ob
    have neP : ∀ {c d : Addr} {o : Obj} {u v : Value} {vs : Array Value}, IsPair s.heap c u v → s.heap.get? d = some o → o.data = .fields vs → c ≠ d := fun {c d o u v vs} hp ho hd e => by
      subst e
      have hp : s.heap.get? c = some { cls := .type "tuple", data := .seq #[u, v] } := hp
      rw [hp] at ho; cases ho; cases hd
    have neZ : ∀ {d : Addr} {l : Addr} {o : Obj} {n : Nat}, s.heap.get? d = some o → o.data = .fields #[.ref l, .int n 0] → d ≠ z := fun {d l o n} ho hd e => by
      subst e
      have hz : s.heap.get? d = some _ := st.z
      rw [hz] at ho; cases ho
      have : (#[Value.none, .bool false, .bool false, .ref TI, .ref TO] : Array Value) = #[.ref l, .int n 0] := by injection hd
      exact absurd (congrArg Array.size this) (by simp)
    have w : ∀ c ∈ [z, TI, TO, i1, i2], l1 ≠ c ∧ l2 ≠ c := fun c hc => ⟨fO I h1 (hf c hc), fO I h2 (hf c hc)⟩
    exact { TIz := neP st.ti st.z rfl, TOz := neP hto st.z rfl, i1z := neZ e1 q1, i2z := neZ e2 q2, TITO := d1, TIi1 := neP st.ti e1 q1, TIi2 := neP st.ti e2 q2, TOi1 := neP hto e1 q1, TOi2 := neP hto e2 q2, i12 := d2,
            l1z := (w z (.head _)).1, l1TO := (w TO (.tail _ (.tail _ (.head _)))).1, l1i1 := (w i1 (.tail _ (.tail _ (.tail _ (.head _))))).1, l1i2 := (w i2 (.tail _ (.tail _ (.tail _ (.tail _ (.head _)))))).1, l2z := (w z (.head _)).2, l2TO := (w TO (.tail _ (.tail _ (.head _)))).2, l2i1 := (w i1 (.tail _ (.tail _ (.tail _ (.head _))))).2, l2i2 := (w i2 (.tail _ (.tail _ (.tail _ (.tail _ (.head _)))))).2 }
  refine ⟨by simp, fun i h st => ?_, fun i h h' st k => ?_, ?_, ?_, fun A i s Q E st hq => wpAny_pyIter_zip st.z hq⟩
  · obtain ⟨a, b', hto⟩ := st.to
    obtain ⟨o1, e1, q1⟩ := st.one.ob
    obtain ⟨o2, e2, q2⟩ := st.two.ob
    exact OO ⟨_, st.z, fun v e => by cases e⟩ ⟨_, st.ti, fun v e => by cases e⟩ ⟨_, hto, fun v e => by cases e⟩ ⟨_, e1, fun v e => by rw [q1] at e; cases e⟩ ⟨_, e2, fun v e => by rw [q2] at e; cases e⟩
  · obtain ⟨a, b', hto⟩ := st.to
    exact ⟨k z (.head _) _ st.z, k TI (.tail _ (.head _)) _ st.ti, ⟨a, b', k TO (.tail _ (.tail _ (.head _))) _ hto⟩, st.one.at fun o e => k i1 (.tail _ (.tail _ (.tail _ (.head _)))) o e, st.two.at fun o e => k i2 (.tail _ (.tail _ (.tail _ (.tail _ (.head _))))) o e⟩
  · intro X hP hw hK hc i pins s σ H E I hf st hg
    obtain ⟨xs, ys, x, y, h1, h2, hx, hy⟩ := hg
    have D := ap hK I hf st h1 h2
    subst hP hw hK
    obtain ⟨qB, r1, s1, z1⟩ := I.ksq h1
    obtain ⟨rT, r2, s2, z2⟩ := I.ksq h2
    obtain ⟨u, hu, ru⟩ := r1.get hx
    obtain ⟨v, hv, rv⟩ := r2.get hy
    obtain ⟨a, b', hto⟩ := st.to
    refine xy D st.z st.ti hto st.one st.two s1 s2 (x := u) (y := v) (by simpa using hu) (by simpa using hv) fun h' g1 g2 g3 g4 g5 g6 g7 => ⟨_, rfl, ?_⟩
    refine wpAny_letOwnedTupleGo_zip g1 fun h'' q1 q2 => ?_
    have lt : ∀ {c : Addr} {o : Obj}, s.heap.get? c = some o → c ≠ s.heap.objs.size := fun e => Nat.ne_of_lt (Heap.lt_size e)
    have hTz : s.heap.objs.size ≠ z := (lt st.z).symm
    obtain ⟨o1, e1, _⟩ := st.one.ob
    obtain ⟨o2, e2, _⟩ := st.two.ob
    have new : IsPair h'' s.heap.objs.size u v := q2.extBut _ _ hTz g5
    refine ⟨.ref s.heap.objs.size, upd H s.heap.objs.size (.tup [x, y]), ?_, rfl, ⟨s.heap.objs.size, x, y, rfl, I.hok.fresh (Nat.le_refl _), rfl, fun ws hw => by rw [I.nD hw h1]; exact hx, fun ws hw => by rw [I.nD hw h2]; exact hy⟩, ?_, fun c hcm => ?_⟩
    · refine I.sH (ch := [z, TO, i1, i2]) (fun c o hcn e => ?_) (fun c hcm => hf c (Kw hcm)) ?_
      · have hcn := OP hcn
        exact q2.extBut _ _ hcn.1 (g7 c o hcn.1 hcn.2.1 hcn.2.2.1 hcn.2.2.2 e)
      · exact ⟨by show 2 ≤ sizeLine; decide, [u, v], .cons ru (.cons rv .nil), ⟨_, new, rfl, 0, rfl⟩⟩
    · exact ⟨q1, q2.extBut _ _ D.TIz (g7 TI _ D.TIz D.TITO D.TIi1 D.TIi2 st.ti), ⟨_, _, q2.extBut _ _ D.TOz g2⟩, g3.at fun o e => q2.extBut _ _ D.i1z e, g4.at fun o e => q2.extBut _ _ D.i2z e⟩
    · rw [aQ]
      · exact (hf c hcm).1
      · exact OO (P := fun c => c ≠ s.heap.objs.size) (lt st.z) (lt st.ti) (lt hto) (lt e1) (lt e2) c hcm
  · intro X hP hw hK hc i pins s σ H E I hf st hg
    obtain ⟨xs, ys, h1, h2, hle⟩ := hg
    have D := ap hK I hf st h1 h2
    subst hP hw hK
    obtain ⟨qB, r1, s1, z1⟩ := I.ksq h1
    obtain ⟨rT, r2, s2, z2⟩ := I.ksq h2
    obtain ⟨a, b', hto⟩ := st.to
    have l1' := r1.length
    have l2' := r2.length
    refine zw (I.ok.hd hc) D st.z st.ti hto st.one st.two s1 s2 (by
      rcases hle with q | q
      · exact .inl (by simp; lia)
      · exact .inr (by simp; lia)) fun h' g7 => ⟨rfl, I.sG (t' := s.toks) (ch := [z, TO, i1, i2]) (fun c o hcn e => ?_) fun c hcm => hf c (Kw hcm)⟩
    have hcn := OP hcn
    exact g7 c o hcn.1 hcn.2.1 hcn.2.2.1 hcn.2.2.2 e
def OQ(K:PySem.W.Frag)(t:TA):TI:=λσ H R=>t σ H λvs H1=>∃a b k1 k2 xs ys,vs=[.ref a,.ref b]∧fg K k1 H1 a xs∧fg K k2 H1 b ys∧R (Itz K k1 k2 a b) H1
theorem Mt{X:Cx}{elts:List Expr}{x1:Nat}{hZ p pos:Pos}{a b:Expr}{t:TA}(hg:Gl X "zip")(hm:X.mg "zip"=none)(ha:PA X [a,b] t)(he:starEach [a,b] X.env=(false,eval a X.env)::starEach [b] X.env)(hpl:(backTo pos (starEach [b] X.env)).any (·.1)=false) :
  PI X (.Tuple elts x1 hZ) (.Call (.Name "zip" p) [a,b] [] pos) (OQ X.K t):=by
 intro pins s σ H R I h
 refine wpAny_Call_Name_kw (oi I hg hm PyProof.Rows.boot_zip ?_ (by decide) (by decide))
 refine PyProof.Rows.callWith_type1 (thn (ha pos pins s σ H _ I h) λus s1 ax=>?_) he hpl
 obtain⟨vs,H1,I1,r1,q1⟩:=ax
 obtain⟨c,d,k1,k2,xs,ys,rfl,h1,h2,q⟩:=q1
 obtain⟨u1,u2,rfl,ru1,ru2⟩:=vals2 r1
 cases ru1
 cases ru2
 obtain⟨qB,_,s1',_⟩:=I1.ksq h1
 obtain⟨rT,_,s2',_⟩:=I1.ksq h2
 refine DW s1' s2' λh' g1 g2 g3 g4 g5 g6 g7=>wpAny_pyIter_zip g1 ?_
 have I2:Inv X pins σ H1 { s1 with heap:=h' }:=I1.kept (t':=s1.toks) g7
 refine⟨_,_,_,_,H1,rfl,I2,Gz (k1:=k1) (k2:=k2) (TI:=s1.heap.objs.size+2) (TO:=s1.heap.objs.size+3) (i1:=s1.heap.objs.size) (i2:=s1.heap.objs.size+1) (l1:=c) (l2:=d) (λe=>by have e:s1.heap.objs.size+2=s1.heap.objs.size+3:=e;lia) (λe=>by have e:s1.heap.objs.size=s1.heap.objs.size+1:=e;lia),⟨g1,g2,⟨_,_,g3⟩,g4,g5⟩,λe he=>?_,q⟩
 have:s1.heap.objs.size≤e:=by
  simp only[List.mem_cons,List.not_mem_nil,or_false] at he
  rcases he with rfl|rfl|rfl|rfl|rfl
  ·exact Nat.le_add_right _ _
  ·exact Nat.le_add_right _ _
  ·exact Nat.le_add_right _ _
  ·exact Nat.le_refl _
  ·exact Nat.le_add_right _ _
 exact I1.yG this (I1.hok.fresh this)
end L2
namespace Fw
open PySem PySem.Spec PyProof.Rows L2
theorem zx:∀{ts us:List T}{i:Nat}{t:T},(fA ts us)[i]?=some t→∃a b,ts[i]?=some a∧us[i]?=some b∧t = .tup [a,b]
 | [],us,i,t,h=>by simp[fA] at h
 | a::ts,[],i,t,h=>by simp[fA] at h
 | a::ts,b::us,0,t,h=>by simp[fA] at h;exact⟨a,b,rfl,rfl,h.symm⟩
 | a::ts,b::us,i+1,t,h=>by
  obtain⟨c,d,h1,h2,h3⟩:=zx (ts:=ts) (us:=us) (i:=i) (t:=t) (by simpa [fA] using h)
  exact⟨c,d,by simpa using h1,by simpa using h2,h3⟩
theorem fF{K:PySem.W.Frag}{F H:Hp}{v:V}{t:T}{ts:List T}(s:aX F H)(h:Now K F H v t)(e:bw t=some ts):∃a vs k,v = .ref a∧fg K k H a vs∧aI K F ts vs∧(k=true↔∃l,t = .lst l):=by
 cases t with
 | lst us=>cases e;obtain⟨a,vs,rfl,q,r⟩:=h.qA;exact⟨a,vs,true,rfl,q,r,by simp⟩
 | tup us=>cases e;obtain⟨a,vs,rfl,q,r⟩:=h.vj;exact⟨a,vs,false,rfl,aX.kj s q,r,by simp⟩
 | _=>cases e
theorem mz{X:Cx}{elts:List Expr}{x1:Nat}{hZ p pos:Pos}{a b:Expr}{da db:D}(hm:X.mg "zip"=none)(ha:CE X a da)(hb:CE X b db)(hg:Gl X "zip":=by rfl)(hs:starEach [a,b] X.env=(false,eval a X.env)::starEach [b] X.env:=by rfl)(hs2:starEach [b] X.env=(false,eval b X.env)::starEach [] X.env:=by rfl)(hpl:(backTo pos (starEach [b] X.env)).any (·.1)=false:=by rfl) :
  CI X (.Tuple elts x1 hZ) (.Call (.Name "zip" p) [a,b] [] pos) (me da db) :=
 PI.imp (Mt hg hm (af ha (af hb az hs2) hs) hs hpl) λσ H R0 ax=>by
  obtain⟨F,α,e,μ,S,h⟩:=ax
  refine OC ⟨F,α,e,μ,S,(R.wp_bind h).mono (λx μ1 h=>(R.wp_bind h).mono (λy μ2 h v u H1 F1 α1 x1 S1 o1 o2=>?_) λ_ _ h=>h) λ_ _ h=>h⟩
  obtain⟨ts,ht,h⟩:=R.bL (R.wp_bind h)
  obtain⟨us,hu,post⟩:=R.bL (R.wp_bind h)
  obtain⟨t,hr,ht⟩:=Option.bind_eq_some_iff.mp ht
  obtain⟨t2,hr2,hu⟩:=Option.bind_eq_some_iff.mp hu
  obtain⟨a1,vs1,k1,rfl,q1,r1,m1⟩:=fF S1.st.ext (bo S1.st o1 hr) ht
  obtain⟨a2,vs2,k2,rfl,q2,r2,m2⟩:=fF S1.st.ext (bo S1.st o2 hr2) hu
  refine⟨a1,a2,k1,k2,vs1,vs2,rfl,q1,q2,post _ H1 F1 α1 x1 S1 λF2 α2 μ3 H2 s2 p2 S2 same=>?_⟩
  obtain⟨e1,e2⟩:=(show rd μ3 x=rd μ2 x∧rd μ3 y=rd μ2 y from same)
  obtain⟨b1,ws1,j1,g1,n1,l1,m1'⟩:=fF S2.ext (bo S2 (o1.mono s2 p2) (e1.trans hr)) ht
  obtain⟨b2,ws2,j2,g2,n2,l2,m2'⟩:=fF S2.ext (bo S2 (o2.mono s2 p2) (e2.trans hr2)) hu
  cases g1
  cases g2
  have ej1:j1=k1:=by rw[Bool.eq_iff_iff,m1,m1']
  have ej2:j2=k2:=by rw[Bool.eq_iff_iff,m2,m2']
  subst ej1
  subst ej2
  refine⟨λi t hi=>?_,?_⟩
  ·obtain⟨c,d,hc,hd,rfl⟩:=zx hi
   obtain⟨v1,hv1,rv1⟩:=l1.get hc
   obtain⟨v2,hv2,rv2⟩:=l2.get hd
   refine⟨⟨ws1,ws2,v1,v2,n1,n2,hv1,hv2⟩,?_⟩
   rintro z H3 ⟨q,z1,z2,rfl,hq,rfl,f1,f2⟩
   have w1:=f1 ws1 n1
   have w2:=f2 ws2 n2
   rw[hv1] at w1
   rw[hv2] at w2
   cases w1
   cases w2
   have g:bX F2 H2 (upd F2 q (.tup [v1,v2])) (upd H2 q (.tup [v1,v2])):=bX.new hq
   refine⟨_,g,?_⟩
   rw[Rep]
   exact⟨q,_,rfl,SqT.of aV,aI.mono (g.same S2.ext) _ _ (.fM rv1 (.fM rv2 .lP))⟩
  ·refine⟨ws1,ws2,n1,n2,?_⟩
   have:=l1.length
   have:=l2.length
   show ws1.length≤(fA ts us).length∨ws2.length≤(fA ts us).length
   rw[ix]
   lia
def tDO(X:Cx)(o:Option D):TO:=λσ H Q=>∃F α e μ,Sim X.K F α e μ σ H∧(AK o e μ).wp (λi μ'=>∀H' F' α',Ex F α H F' α' H'→Sim X.K F' α' e μ' σ H'→Q i H') (fe X F α H e)
def CO(X:Cx)(e:Option Expr)(o:Option D):Prop:=PO X e (tDO X o)
theorem PO.imp{X:Cx}{e:Option Expr}{t t':TO}(h:PO X e t)(i:∀σ H Q,t' σ H Q→t σ H Q):PO X e t':=λpins s σ H Q I q=>h pins s σ H Q I (i σ H Q q)
section
variable{X:Cx}{a b:Expr}{da db:D}{pos p2:Pos}
theorem sI:CO X none none:=PO.imp Ii λσ H Q ⟨F,α,e,μ,S,h⟩=>h H F α Ex.refl S
theorem sJ(h:CE X a da):CO X (some a) (some da):=PO.imp (Ij h) λσ H Q ax=>by
 obtain⟨F,α,e,μ,S,h⟩:=ax
 refine⟨F,α,e,μ,S,(R.wp_bind h).mono (λx μ1 h v H1 F1 α1 x1 S1 o1=>?_) λ_ _ h=>h⟩
 obtain⟨i,hi,h⟩:=R.bL (R.wp_bind h)
 obtain⟨t,hr,ht⟩:=Option.bind_eq_some_iff.mp hi
 cases za ht
 cases (bo S1.st o1 hr).int
 exact⟨i,rfl,h H1 F1 α1 x1 S1⟩
theorem aI.cut{K:PySem.W.Frag}{F:Hp}{ts:List T}{vs:List V}(h:aI K F ts vs)(lo hi:Option Int):aI K F (jq ts lo hi) (yI vs lo hi):=by
 have e:∀d o,Fw.sIx ts.length d o=HT.sIx vs.length d o:=λd o=>by rw[h.length];cases o<;>rfl
 unfold jq yI
 rw[e,e,h.length]
 exact (h.drop _).take _
theorem xA{lo hi:Option Expr}{dl dh:Option D}(ha:CE X a da)(hl:CO X lo dl)(hh:CO X hi dh):CE X (.Subscript a (.Slice lo hi none p2) pos) (yW da dl dh) :=
 PE.imp (E8 (Im.or LC) ha hl hh) λσ H Q ax=>by
  obtain⟨F,α,e,μ,S,h⟩:=ax
  refine⟨F,α,e,μ,S,(R.wp_bind h).mono (λx μ1 h v H1 F1 α1 x1 S1 o1=>⟨F1,α1,e,μ1,S1,?_⟩) λ_ _ h=>h⟩
  refine (R.wp_bind h).mono (λl μ2 h H2 F2 α2 x2 S2=>⟨F2,α2,e,μ2,S2,?_⟩) λ_ _ h=>h.mono x1
  refine (R.wp_bind h).mono (λr μ3 h H3 F3 α3 x3 S3=>?_) λ_ _ h=>h.mono (x1.trans x2)
  obtain⟨w,h9,post⟩:=R.bL h
  obtain⟨t,w',ht,h,rfl⟩:=om h9
  have nt:=bo S3.st (o1.mono (x2.trans x3).same (x2.trans x3).pre) ht
  have fin:∀v' H' F',bX F3 H3 F' H'→Rep X.K F' w' v'→Q v' H':=λv' H' F' g rp=>post v' H' F' α3 (x1.trans (x2.trans (x3.trans (g.ex S3.st.ext)))) (S3.grow g) rp
  cases t with
  | lst ts =>
   cases h
   obtain⟨c,vs,rfl,hq,hl⟩:=nt.qA
   exact .inl ⟨c,vs,rfl,hq,λq hq'=>Cj S3.st.ext hq' (hl.cut l r) fin⟩
  | tup ts =>
   have h:(if Fw.sIx ts.length 0 l=0∧Fw.sIx ts.length ts.length r=ts.length then none else some (T.tup (jq ts l r)))=some w':=h
   by_cases hc:Fw.sIx ts.length 0 l=0∧Fw.sIx ts.length ts.length r=ts.length
   ·rw[if_pos hc] at h;cases h
   ·rw[if_neg hc] at h
    cases h
    obtain⟨c,vs,rfl,hq,hl⟩:=nt.vj
    refine .inr ⟨c,vs,rfl,aX.kj S3.st.ext hq,?_,λq hq'=>xt S3.st.ext hq' (hl.cut l r) fin⟩
    have e:∀d o,HT.sIx vs.length d o=Fw.sIx ts.length d o:=λd o=>by rw[hl.length];cases o<;>rfl
    rw[e,e,← hl.length]
    exact hc
  | _=>cases h
end
section
variable{X:Cx}{a b c:Expr}{da db dc:D}{pos p p2:Pos}
theorem kW(i:Nat){y:Str}{py hZ:Pos}{ik ev:Expr}{dk dv:D}(hk:CE X ik dk)(hv:CE X ev dv)(hN:X.N[i]?=some y:=by rfl)
  (hvs:Vis X.env.scope y:=by first|exact Or.inl rfl|exact Or.inr (Or.inl rfl)|exact Or.inr (Or.inr rfl)) (hd:(y==("__debug__":Str))=false:=by decide) (hcd:(y==("__classdict__":Str))=false:=by decide)
  (ha:∀v,assign (.Subscript (.Name y py) ik hZ) X.env v=(do
   let ov ← holding [v] (eval (.Name y py) X.env)
   let iv ← holding [v,ov] (eval ik X.env)
   standAt hZ
   holding [v,ov,iv] (setItem ov iv v)
   release [v,ov,iv] []):=by intro _;rfl)
  (hs:swapsWithSole [.Subscript (.Name y py) ik hZ] ev pos.line X.env=pure false:=by rfl) (hw:swappedStores [.Subscript (.Name y py) ik hZ] ev X.env=pure none:=by rfl)
  (h1:(assignEach [.Subscript (.Name y py) ik hZ] X.env).map (·.2)=[assign (.Subscript (.Name y py) ik hZ) X.env]:=by rfl) :
  CS X (.Assign [.Subscript (.Name y py) ik hZ] ev pos) (dQ i dk dv) :=
 PS.imp (Am hv (Le (Al hN hvs hd hcd) hk set_list ha) hs hw h1) λD σ H ax=>by
  obtain⟨F,α,e,μ,S,h⟩:=ax
  refine⟨F,α,e,μ,S,(bc.toS h).mono (λy μ1 h v H1 F1 α1 x1 S1 o1=>?_) λ_ _ h=>h⟩
  obtain⟨x,hx,h⟩:=bc.lift h
  obtain⟨ov,hov,oo⟩:=S1.sl i x hx
  refine⟨ov,hov,F1,α1,e,μ1,S1,(bc.toS h).mono (λz μ2 h v2 H2 F2 α2 x2 S2 o2=>?_) λ_ _ h=>h.mono x1⟩
  obtain⟨k,hk,h⟩:=bc.lift h
  have h:=h.toS
  have nk:=bo S2.st o2 hk
  cases hz:frz y μ2 with
  | err c μ3=>exact absurd hz (sZ y μ2 c μ3)
  | bad=>rw[hz] at h;exact h.elim
  | ok t μ3 =>
   rw[hz] at h
   obtain⟨μ4,ha4,h⟩:=bc.lift h
   obtain⟨F3,s3,n3,S3,r3⟩:=qt S2.st (o1.mono x2.same x2.pre) hz
   cases x with
   | cel j =>
    obtain⟨ad,had,rfl⟩:=oo
    cases k with
    | int ki =>
     cases nk.int
     unfold setAt at ha4
     simp only at ha4
     have hc:∃us jj,μ3[j]?=some (true,.lst us)∧Fw.ixN us.length ki=some jj∧μ4=μ3.set j (true,.lst (us.set jj t)):=by
      split at ha4
      ·rename_i us hjs
       obtain⟨jj,e1,e2⟩:=Option.map_eq_some_iff.mp ha4
       exact⟨us,jj,hjs,e1,e2.symm⟩
      ·cases ha4
     obtain⟨us,jj,hj3,hjj,rfl⟩:=hc
     have ha3:α2[j]?=some ad:=nr x2.pre had
     obtain⟨_,ws,hw,rw'⟩:=(S3.cell j true _ ad hj3 ha3).1 rfl
     have el:=rw'.length
     refine⟨ad,ws,ki,jj,rfl,rfl,hw,by rw[← el];exact hjj,?_⟩
     have x3:Ex F α H F3 α2 H2:=x1.trans (x2.trans (Ex.tP s3 n3))
     exact h σ _ F3 α2 (x3.trans (Ex.put ha3)) ((S2.of s3 (List.prefix_refl _) S3).of (aX.refl _) (List.prefix_refl _) (AN S3 hj3 ha3 ⟨_,aV,rw'.set jj r3⟩))
    | _=>unfold setAt at ha4;cases ha4
   | val t=>cases k<;>(unfold setAt at ha4;cases ha4)
   | box xs=>cases k<;>(unfold setAt at ha4;cases ha4)
theorem A5{r r':R2}{f g:T→T→Option T}(hs:fN X.K r f)(hs':fN X.K r' g)(hf:∀t u w,f t u=some w→∃k,w = .bl k)(σ:L2.St)(H:Hp)(Q:VK)(h:tD X (tK f g da db dc) σ H Q):E3 r r' (tD X da) (tD X db) (tD X dc) σ H Q:=by
 obtain⟨F,α,e,μ,S,h⟩:=h
 refine⟨F,α,e,μ,S,?_⟩
 refine (R.wp_bind h).mono (λx μ1 h v H1 F1 α1 x1 S1 o1=>⟨F1,α1,e,μ1,S1,?_⟩) λ_ _ h=>h
 refine (R.wp_bind h).mono (λy μ2 h v2 H2 F2 α2 x2 S2 o2=>?_) λ_ _ h=>h.mono x1
 obtain⟨w,h9,h⟩:=R.bL (R.wp_bind h)
 obtain⟨t,u,w',ht,hu,hfw,rfl⟩:=tf h9
 obtain⟨k,rfl⟩:=hf t u w' hfw
 obtain⟨k',e1,h⟩:=R.bL (R.wp_bind h)
 cases e1
 refine hs F2 H2 v v2 t u _ _ S2.st.ext (bo S2.st (o1.mono x2.same x2.pre) ht) (bo S2.st o2 hu) hfw λv' H' F' g1 rp=>?_
 have ev:v' = .bl k:=Rep.jr rp
 subst ev
 have x3:Ex F α H F' α2 H':=x1.trans (x2.trans (g1.ex S2.st.ext))
 have S3:=S2.grow g1
 refine⟨k,rfl,?_⟩
 cases k with
 | false =>
  rw[if_neg (by decide)] at h ⊢
  exact h _ H' F' α2 x3 S3 (Rep.bl' (K:=X.K) (F:=F') false)
 | true =>
  rw[if_pos rfl] at h ⊢
  refine⟨F',α2,e,μ2,S3,(R.wp_bind h).mono (λz μ3 h v3 H3 F3 α3 x4 S4 o4=>?_) λ_ _ h=>h.mono x3⟩
  obtain⟨w,h9,post⟩:=R.bL h
  obtain⟨t2,u2,w2,ht2,hu2,hgw,rfl⟩:=tf h9
  exact hs' F3 H3 v2 v3 t2 u2 w2 Q S4.st.ext (bo S4.st ((o2.mono (g1.same S2.st.ext) (List.prefix_refl _)).mono x4.same x4.pre) ht2) (bo S4.st o4 hu2) hgw λv' H' F' g rp =>
   post v' H' F' α3 (x3.trans (x4.trans (g.ex S4.st.ext))) (S4.grow g) rp
theorem Mu(t u w:T)(h:fLe t u=some w):∃k,w = .bl k:=by
 cases t<;>cases u<;>first|(cases h;exact⟨_,rfl⟩)|cases h
theorem ue(ha:CE X a da)(hb:CE X b db)(hc:CE X c dc)(hm:lastMarks [.LtE,.Lt] [b,c]=false:=by with_unfolding_all rfl):CE X (.Compare a [.LtE,.Lt] [b,c] pos) (tK fLe fLt da db dc) :=
 PE.imp (E4 N4 Kj ha hb hc hm) (A5 Mm Gk Mu)
theorem JB{K:PySem.W.Frag}{F H:Hp}{v:V}{t:T}(h:Now K F H v t):decide (v = .non)=(match t with | .non=>true|_=>false):=by
 cases t with
 | non=>have e:v = .non:=Rep.kN (K:=K) (F:=F) h;subst e;rfl
 | bl b=>have e:=h.bl;subst e;rfl
 | int b=>have e:=h.int;subst e;rfl
 | str b=>have e:=h.str;subst e;rfl
 | lst ts=>obtain⟨a,vs,rfl,_⟩:=h.qA;rfl
 | tup ts=>obtain⟨a,vs,rfl,_⟩:=h.vj;rfl
 | dct ts=>obtain⟨a,vs,rfl,_⟩:=h;rfl
 | exc c n=>have h:Rep K F (.exc c n) v:=h;rw[Rep] at h;obtain⟨a,rfl,_⟩:=h;rfl
def OR:T→T→Option T:=λt u=>match u with
 | .non=>tH t
 | _=>none
theorem JC{K:PySem.W.Frag}:fN K (λx y H Q=>y = .non∧Q (.bl (decide (x = .non))) H) OR:=by
 intro F H v u t t' w Q s hv hu hw q
 cases t' with
 | non =>
  refine⟨Rep.kN (K:=K) (F:=F) hu,?_⟩
  rw[JB hv]
  refine q _ H F bX.refl ?_
  cases t<;>(cases hw;exact Rep.bl' _)
 | _=>cases hw
theorem JD:ai OR da (dC .non)=dUn tH da:=by
 funext e μ
 rw[pG,w8]
 cases da e μ with
 | ok x μ1=>rw[R.bf,R.bf,s_,R.bf];cases rd μ1 x<;>rfl
 | err c μ1=>rfl
 | bad=>rfl
theorem Mv{j}(ha:CE X a da):CT X (.Compare a [.Is] [.Constant .none j p] pos) (dUn tH da):=JD ▸ qw Lx JC (qh _) ha FJ
end
section
variable{K:PySem.W.Frag}{F:Hp}
theorem bR.lP:bR K F [] []:=by rw[bR]
theorem bR.fM{k:Key}{t:T}{v:V}{kts:List (Key×T)}{kvs:List (Key×V)}(q:Rep K F t v)(r:bR K F kts kvs):bR K F ((k,t)::kts) ((k,v)::kvs):=by rw[bR];exact⟨v,kvs,rfl,q,r⟩
theorem GA{p:Key×T}{r:List (Key×T)}{k:Key}(e:p.1=k):kS (p::r) k=some p.2:=by simp[kS,List.find?_cons,e]
theorem GB{p:Key×T}{r:List (Key×T)}{k:Key}(e:¬ p.1=k):kS (p::r) k=kS r k:=by simp[kS,List.find?_cons,e]
theorem bR.val:∀{kts:List (Key×T)}{kvs:List (Key×V)} (k:Key),bR K F kts kvs→(kS kts k=none∧nU kvs k=none)∨∃t v,kS kts k=some t∧nU kvs k=some v∧Rep K F t v
 | [],kvs,k,h=>by rw[bR] at h;subst h;exact .inl ⟨rfl,rfl⟩
 | (k0,t)::kts,kvs,k,h=>by
  rw[bR] at h
  obtain⟨v,qr,rfl,q,r⟩:=h
  by_cases e:k0=k
  ·exact .inr ⟨t,v,GA (p:=(k0,t)) e,pB (p:=(k0,v)) e,q⟩
  ·rw[GB (p:=(k0,t)) e,pC (p:=(k0,v)) e]
   exact bR.val k r
theorem bR.any:∀{kts:List (Key×T)}{kvs:List (Key×V)} (k:Key),bR K F kts kvs→(kts.any λkv=>decide (kv.1=k))=(kvs.any λkv=>decide (kv.1=k))
 | [],kvs,k,h=>by rw[bR] at h;subst h;rfl
 | (k0,t)::kts,kvs,k,h=>by
  rw[bR] at h
  obtain⟨v,qr,rfl,q,r⟩:=h
  rw[List.any_cons,List.any_cons,bR.any k r]
theorem bR.Ay{t':T}{v':V}(q':Rep K F t' v')(k:Key):∀{kts:List (Key×T)}{kvs:List (Key×V)},bR K F kts kvs→bR K F (kts.map λkv=>if kv.1=k then (kv.1,t') else kv) (kvs.map λkv=>if kv.1=k then (kv.1,v') else kv)
 | [],kvs,h=>by rw[bR] at h;subst h;exact .lP
 | (k0,t)::kts,kvs,h=>by
  rw[bR] at h
  obtain⟨v,qr,rfl,q,r⟩:=h
  rw[List.map_cons,List.map_cons]
  by_cases e:k0=k
  ·simp only[e,if_true]
   exact .fM q' (bR.Ay q' k r)
  ·simp only[e,if_false]
   exact .fM q (bR.Ay q' k r)
theorem bR.append:∀{kts uts:List (Key×T)}{kvs uvs:List (Key×V)},bR K F kts kvs→bR K F uts uvs→bR K F (kts++uts) (kvs++uvs)
 | [],uts,kvs,uvs,h,g=>by rw[bR] at h;subst h;exact g
 | (k0,t)::kts,uts,kvs,uvs,h,g=>by
  rw[bR] at h
  obtain⟨v,qr,rfl,q,r⟩:=h
  exact .fM q (r.append g)
theorem bR.put{kts:List (Key×T)}{kvs:List (Key×V)}{t:T}{v:V}(h:bR K F kts kvs)(k:Key)(q:Rep K F t v):bR K F (xm kts k t) (putK kvs k v):=by
 unfold xm putK
 rw[h.any k]
 by_cases e:(kvs.any λkv=>decide (kv.1=k))=true
 ·rw[if_pos e,if_pos e];exact bR.Ay q k h
 ·rw[if_neg e,if_neg e];exact h.append (.fM q .lP)
theorem xB{H:Hp}{v:V}{t:T}{k:Key}(h:Now K F H v t)(e:pQ t=some k):v=kV k:=by
 cases t with
 | int i=>cases e;exact h.int
 | str x=>cases e;exact h.str
 | _=>cases e
end
section
variable{X:Cx}{a b c:Expr}{da db dc:D}{pos p p2:Pos}{k:Nat}
theorem uf(hr:eS k X.A):X.A.units+1<cLine:=by have:=hr.units;omega
theorem DX(σ:L2.St)(H:Hp)(Q:VK)(h:tD X (ai t5 da db) σ H Q):Km (tD X da) (tD X db) σ H Q:=by
 obtain⟨F,α,e,μ,S,h⟩:=h
 refine⟨F,α,e,μ,S,?_⟩
 refine (R.wp_bind h).mono (λx μ1 h v H1 F1 α1 x1 S1 o1=>⟨F1,α1,e,μ1,S1,?_⟩) λ_ _ h=>h
 refine (R.wp_bind h).mono (λy μ2 h v2 H2 F2 α2 x2 S2 o2=>?_) λ_ _ h=>h.mono x1
 obtain⟨w,h9,post⟩:=R.bL h
 obtain⟨t,u,w',ht,hu,h,rfl⟩:=tf h9
 have n1:=bo S2.st (o1.mono x2.same x2.pre) ht
 have n2:=bo S2.st o2 hu
 cases t with
 | dct kts =>
  obtain⟨kk,hk,h⟩:=Option.bind_eq_some_iff.mp (show (pQ u).bind (λk=>kS kts k)=some w' from h)
  obtain⟨ad,kvs,rfl,hq,rd⟩:=n1
  have ek:=xB n2 hk
  subst ek
  rcases rd.val kk with ⟨g1,_⟩|⟨t,v,g1,g2,g3⟩
  ·rw[g1] at h;cases h
  ·rw[g1] at h
   cases h
   exact⟨ad,v,rfl,by rw[← g2];exact sW.k hq,post v H2 F2 α2 (x1.trans x2) S2 g3⟩
 | _=>cases u<;>cases h
theorem JE(hr:eS k X.A)(ha:CE X a da)(hb:CE X b db)(hs:LQ b:=by intro _ _;rfl):CE X (.Subscript a b pos) (ai t5 da db):=PE.imp (Iq (uf hr) ha hb hs) DX
theorem DY(σ:L2.St)(H:Hp)(Q:VK)(h:tD X (ai wo da db) σ H Q):BY (tD X da) (tD X db) σ H Q:=by
 obtain⟨F,α,e,μ,S,h⟩:=h
 refine⟨F,α,e,μ,S,?_⟩
 refine (R.wp_bind h).mono (λx μ1 h v H1 F1 α1 x1 S1 o1=>⟨F1,α1,e,μ1,S1,?_⟩) λ_ _ h=>h
 refine (R.wp_bind h).mono (λy μ2 h v2 H2 F2 α2 x2 S2 o2=>?_) λ_ _ h=>h.mono x1
 obtain⟨w,h9,post⟩:=R.bL h
 obtain⟨u,t,w',hu,ht,h,rfl⟩:=tf h9
 have n1:=bo S2.st o2 ht
 have n2:=bo S2.st (o1.mono x2.same x2.pre) hu
 cases t with
 | dct kts =>
  have h:(pQ u).map (λk=>T.bl (!(kS kts k).isSome))=some w':=by cases u<;>exact h
  obtain⟨kk,hk,rfl⟩:=Option.map_eq_some_iff.mp h
  obtain⟨ad,kvs,rfl,hq,rd⟩:=n1
  have ek:=xB n2 hk
  subst ek
  refine⟨ad,nU kvs kk,rfl,sW.k hq,?_⟩
  have e1:(kS kts kk).isSome=(nU kvs kk).isSome:=by
   rcases rd.val kk with ⟨g1,g2⟩|⟨t,v,g1,g2,g3⟩<;>rw[g1,g2]<;>rfl
  rw[← e1]
  exact post _ H2 F2 α2 (x1.trans x2) S2 (Rep.bl' (K:=X.K) (F:=F2) _)
 | _=>cases u<;>cases h
theorem Cn(hr:eS k X.A)(i:Nat){y:Str}{py hZ:Pos}{ik ev:Expr}{dk dv:D}(hk:CE X ik dk)(hv:CE X ev dv)(hN:X.N[i]?=some y:=by rfl)
  (hvs:Vis X.env.scope y:=by first|exact Or.inl rfl|exact Or.inr (Or.inl rfl)|exact Or.inr (Or.inr rfl)) (hd:(y==("__debug__":Str))=false:=by decide) (hcd:(y==("__classdict__":Str))=false:=by decide)
  (hs:swapsWith ev (some (.Subscript (.Name y py) ik hZ)) pos.line X.env=pure false:=by rfl) :
  CS X (.Assign [.Subscript (.Name y py) ik hZ] ev pos) (rG i dk dv) :=
 PS.imp (Ir (uf hr) (Al hN hvs hd hcd) hk hv hs) λD σ H ax=>by
  obtain⟨F,α,e,μ,S,h⟩:=ax
  refine⟨F,α,e,μ,S,(bc.toS h).mono (λy μ1 h v H1 F1 α1 x1 S1 o1=>?_) λ_ _ h=>h⟩
  obtain⟨x,hx,h⟩:=bc.lift h
  obtain⟨ov,hov,oo⟩:=S1.sl i x hx
  refine⟨ov,hov,F1,α1,e,μ1,S1,(bc.toS h).mono (λz μ2 h v2 H2 F2 α2 x2 S2 o2=>?_) λ_ _ h=>h.mono x1⟩
  obtain⟨k,hk,h⟩:=bc.lift h
  have h:=h.toS
  have nk:=bo S2.st o2 hk
  cases hz:frz y μ2 with
  | err c μ3=>exact absurd hz (sZ y μ2 c μ3)
  | bad=>rw[hz] at h;exact h.elim
  | ok t μ3 =>
   rw[hz] at h
   obtain⟨μ4,ha4,h⟩:=bc.lift h
   obtain⟨F3,s3,n3,S3,r3⟩:=qt S2.st (o1.mono x2.same x2.pre) hz
   cases x with
   | cel j =>
    obtain⟨ad,had,rfl⟩:=oo
    unfold oy at ha4
    simp only at ha4
    have hc:∃kts kk,μ3[j]?=some (true,.dct kts)∧pQ k=some kk∧kts.length<szL∧μ4=μ3.set j (true,.dct (xm kts kk t)):=by
     split at ha4
     ·rename_i us hjs
      obtain⟨kk,e1,e2⟩:=Option.bind_eq_some_iff.mp ha4
      by_cases hl:us.length<szL
      ·rw[if_pos hl] at e2
       cases e2
       exact⟨us,kk,hjs,e1,hl,rfl⟩
      ·rw[if_neg hl] at e2;cases e2
     ·cases ha4
    obtain⟨kts,kk,hj3,hkk,hl,rfl⟩:=hc
    have ha3:α2[j]?=some ad:=nr x2.pre had
    obtain⟨_,kvs,hw,rw'⟩:=(S3.cell j true _ ad hj3 ha3).1 rfl
    have el:=rw'.length
    have ek:=xB nk hkk
    subst ek
    refine⟨ad,_,rfl,Az.k hw (by rw[xr] at hl;omega),?_⟩
    have x3:Ex F α H F3 α2 H2:=x1.trans (x2.trans (Ex.tP s3 n3))
    exact h σ _ F3 α2 (x3.trans (Ex.put ha3)) ((S2.of s3 (List.prefix_refl _) S3).of (aX.refl _) (List.prefix_refl _) (AN S3 hj3 ha3 ⟨_,aV,rw'.put kk r3⟩))
   | val t=>unfold oy at ha4;cases ha4
   | box xs=>unfold oy at ha4;cases ha4
end
end Fw
namespace L2
open PySem PySem.Spec PyProof.Rows
theorem Kx{P:Program}{w:World}{k:Key}{u:Value}(h:(dO P w).is k u=true):RelV (kV k) u:=by
 rcases cY (show sQ k u=true from h) with ⟨i,t,rfl,rfl⟩|⟨x,t,rfl,rfl⟩
 ·exact⟨t,rfl⟩
 ·exact⟨t,rfl⟩
theorem KV.get{kvs:List (Key×V)}{vs:List (Key×Value)}(r:KV kvs vs){i:Nat}{p:Key×V}(h:kvs[i]?=some p):∃u,vs[i]?=some (p.1,u)∧RelV p.2 u:=by
 unfold KV at r
 induction r generalizing i with
 | nil=>simp at h
 | @cons a b as bs h1 t ih =>
  cases i with
  | zero =>
   simp at h
   subst h
   refine⟨b.2,?_,h1.2⟩
   rw[h1.1]
   rfl
  | succ i=>simpa using ih (by simpa using h)
def Itd(d:Addr)(n:Nat):It :=
 ⟨λi H=>∃kvs p,H d=some (.dK kvs)∧kvs.length=n∧kvs[i]?=some p,
  λi H v H'=>∃q p,v = .ref q∧H q=none∧H'=upd H q (.tup [kV p.1,p.2])∧∀kvs,H d=some (.dK kvs)→kvs[i]?=some p,
  λi H=>∃kvs,H d=some (.dK kvs)∧kvs.length=n∧n≤i⟩
theorem A6{P:Program}{w:World}{K:PySem.W.Frag}{elts:List Expr}{x1:Nat}{pos:Pos}{it d:Addr}{n:Nat} :
  Turn P w K (.Tuple elts x1 pos) (Itd d n) [it] it (λi h=>∃ok ov,IsItemIter h it d i n n ok ov):=by
 refine⟨by simp,λi h ⟨ok,ov,st⟩ b hb=>?_,λi h h' ⟨ok,ov,st⟩ k=>⟨ok,ov,k it (by simp) _ st⟩,?_,?_,λA i s Q E ⟨ok,ov,st⟩ hq=>?_⟩
 ·simp at hb;subst hb
  exact⟨_,st,λv e=>by cases e⟩
 ·intro X hP hw hK hc i pins s σ H E I hf st hg
  obtain⟨kvs,p,hd,hn,hp⟩:=hg
  obtain⟨ok,ov,st⟩:=st
  subst hP hw hK
  obtain⟨z,hS,vs,rel,dd⟩:=yK I.hok (.inl hd)
  have hl:=rel.length
  obtain⟨u,hu,ru⟩:=rel.get hp
  have en:n=vs.length:=by lia
  rw[en] at st
  refine wpAny_pyNext_items_item st dd hu λkey h' hk Q4 ht hz OS=>⟨_,rfl,wpAny_letOwnedTupleGo_items Q4 λh'' hit hs=>?_⟩
  have hne:it≠s.heap.objs.size:=Nat.ne_of_lt (Heap.lt_size st)
  have ht2:h''.get? s.heap.objs.size=some { cls:=.type "tuple",data:=.seq #[key,u] }:=hs.extBut _ _ hne.symm ht
  refine⟨.ref s.heap.objs.size,upd H s.heap.objs.size (.tup [kV p.1,p.2]),?_,rfl,⟨s.heap.objs.size,p,rfl,I.hok.fresh (Nat.le_refl _),rfl,λws hw=>by rw[hd] at hw;cases hw;exact hp⟩,⟨_,_,by rw[en];exact hit⟩,λc hcm=>?_⟩
  ·refine I.sH (ch:=[it]) (λc o hcn e=>?_) (λc hcm=>hf c hcm) ?_
   ·simp at hcn
    exact hs.extBut _ _ hcn (OS c o hcn e)
   ·exact⟨by show 2≤sizeLine;decide,[key,u],.cons (Kx hk) (.cons ru .nil),⟨_,ht2,rfl,0,rfl⟩⟩
  ·simp at hcm
   subst hcm
   rw[aQ hne]
   exact (hf c (by simp)).1
 ·intro X hP hw hK hc i pins s σ H E I hf st hg
  obtain⟨kvs,hd,hn,hle⟩:=hg
  obtain⟨ok,ov,st⟩:=st
  subst hP hw hK
  obtain⟨z,hS,vs,rel,dd⟩:=yK I.hok (.inl hd)
  have hl:=rel.length
  have en:n=vs.length:=by lia
  rw[en] at st
  refine wpAny_pyNext_items_end (I.ok.hd hc) st dd (List.getElem?_eq_none (by lia)) λh' hx=>⟨rfl,I.sG (t':=s.toks) (ch:=[it]) (λc o hcn e=>?_) λc hcm=>hf c hcm⟩
  simp at hcn
  exact hx c o hcn e
 ·exact PySem.W.kcp_self st hq
def JF(tl:TE):TI:=λσ H R=>tl σ H λx H1=>∃d kvs,x = .ref d∧H1 d=some (.dK kvs)∧R (Itd d kvs.length) H1
theorem GC{X:Cx}{elts:List Expr}{x1:Nat}{hZ apos pos:Pos}{o:Expr}{tl:TE}(ho:PE X o tl)(pA:attributeBase o "items" X.env (eval o X.env)=eval o X.env)(sV:(apos.endLine==pos.line)=true) :
  PI X (.Tuple elts x1 hZ) (.Call (.Attribute o "items" apos) [] [] pos) (JF tl):=by
 intro pins s σ H R I h
 refine wpAny_Call_method (T:="dict") (id:="dict.items") pA rfl sV PySem.F.plainAttrs_dict PySem.F.slot_dict_items PySem.F.type_dict_items (thn (ho pins s σ H _ I h) λv s1 ax=>?_)
 obtain⟨x,H1,I1,r1,q1⟩:=ax
 obtain⟨d,kvs,rfl,hd,q⟩:=q1
 cases r1
 obtain⟨z,hS,vs,rel,dd⟩:=yK I1.hok (.inl hd)
 have hl:=rel.length
 refine⟨dd.dictOf.typeIs,dd.dictOf.mapOf.noDict,?_⟩
 show wpAny _ _ (callWith pos (.builtin "dict.items") [.ref d] [] []) _ _ s1
 refine method_meetsIn PySem.F.slot_dict_items PySem.F.entry_dict_items rfl (PySem.evalArgs_none ⟨rfl,dd.dictOf.typeIs,PySem.F.args_dict_items_1 _,_,meets_dict_items (dO X.prog X.w) d hS,⟨vs,dd.dictOf⟩,?_⟩)
 refine wpAny_pyIter_items (d:=d) (kvs:=vs) (ep:=vs.length) ⟨_,Heap.get?_push_size _ rfl,rfl,rfl⟩ (dd.push _) ?_
 have I2:Inv X pins σ H1 { s1 with heap:=(s1.heap.push { cls:=.type "dict_items",data:=.fields #[.ref d] }).push { cls:=.type "dict_itemiterator",data:=.fields #[.none,.bool false,.ref d,.int 0 0,.int vs.length 0,.int vs.length 0,.none,.none] } } :=
  I1.kept (t':=s1.toks) λb o e=>Heap.get?_push_of_some _ (Heap.get?_push_of_some _ e)
 refine⟨_,[_],_,Itd d kvs.length,H1,rfl,I2,A6,⟨.none,.none,by rw[hl];exact Heap.get?_push_size _ rfl⟩,λb hb=>?_,q⟩
 have e:s1.heap.objs.size≤b:=by
  simp at hb
  subst hb
  exact Nat.le_succ _
 exact I1.yG e (I1.hok.fresh e)
theorem DZ{P:Program}{w:World}{kvs:List (Key×V)}{vs:List (Key×Value)}(r:KV kvs vs){acc:List Value}(hl:acc.length=vs.length)(h:∀(i:Nat) (v:Value),acc[i]?=some v→∃(k:Key) (x:Value),vs[i]?=some (k,x)∧(dO P w).is k v=true):Vals (kvs.map λp=>kV p.1) acc:=by
 unfold KV at r
 induction r generalizing acc with
 | nil=>cases acc with
  | nil=>exact .nil
  | cons a l=>simp at hl
 | @cons p q ps qs h1 t ih =>
  cases acc with
  | nil=>simp at hl
  | cons a l =>
   obtain⟨k,x,e,hk⟩:=h 0 a rfl
   simp at e
   refine .cons ?_ (ih (by simpa using hl) λi v e=>by simpa using h (i+1) v (by simpa using e))
   have:p.1=k:=by rw[h1.1,e]
   show RelV (kV p.1) a
   rw[this]
   exact Kx hk
theorem A7{X:Cx}(hc:X.calm=true):fL X (.type "list") (λxs H Q=>∃d kvs,xs=[.ref d]∧H d=some (.dK kvs)∧∀l,H l=none→Q (.ref l) (upd H l (.lst (kvs.map λp=>kV p.1)))):=by
 intro pins s σ H xs us Q I r h
 obtain⟨d,kvs,rfl,hd,q⟩:=h
 obtain⟨u,rfl,ru⟩:=vals1 r
 cases ru
 obtain⟨z,hS,vs,rel,dd⟩:=yK I.hok (.inl hd)
 have hl:=rel.length
 refine PySem.W.kdl_call (PySem.W.kdl_dict (knd:=dO X.prog X.w) (kvs:=vs) (ep:=vs.length) hS) (I.ok.hd hc) dd (by lia) λh' tk OT c' hk hD OU=>?_
 have hv:Vals (kvs.map λp=>kV p.1) OT.toList:=DZ rel (by rw[Array.length_toList];exact OU.1) λj v e=>OU.2 j v (by rw[← Array.getElem?_toList];exact e)
 exact⟨.ref s.heap.objs.size,_,I.laid (a:=s.heap.objs.size) (o:=.lst (kvs.map λp=>kV p.1)) (h':=h') (t':=tk) hk (Nat.le_refl _) ⟨by rw[List.length_map];exact z,OT.toList,c',hv,hD⟩,rfl,q _ I.fresh⟩
end L2
namespace Fw
open PySem PySem.Spec PyProof.Rows L2
section
variable{K:PySem.W.Frag}{F:Hp}
theorem Co(k:Key):Rep K F (yU k) (kV k):=by
 cases k with
 | inl i=>exact Rep.jJ i
 | inr x=>exact Rep.IX x
theorem bR.get:∀{kts:List (Key×T)}{kvs:List (Key×V)}{i:Nat}{p:Key×T},bR K F kts kvs→kts[i]?=some p→∃v,kvs[i]?=some (p.1,v)∧Rep K F p.2 v
 | [],_,_,_,_,e=>by simp at e
 | (k,t)::kts,kvs,0,p,h,e=>by
  rw[bR] at h
  obtain⟨v,qr,rfl,q,_⟩:=h
  simp at e;subst e
  exact⟨v,rfl,q⟩
 | (k,t)::kts,kvs,i+1,p,h,e=>by
  rw[bR] at h
  obtain⟨v,qr,rfl,q,r⟩:=h
  obtain⟨v',h1,h2⟩:=bR.get (i:=i) r (by simpa using e)
  exact⟨v',by simpa using h1,h2⟩
theorem bR.keys:∀{kts:List (Key×T)}{kvs:List (Key×V)},bR K F kts kvs→aI K F (kts.map λp=>yU p.1) (kvs.map λp=>kV p.1)
 | [],kvs,h=>by rw[bR] at h;subst h;exact .lP
 | (k,t)::kts,kvs,h=>by
  rw[bR] at h
  obtain⟨v,qr,rfl,q,r⟩:=h
  exact .fM (Co k) r.keys
end
section
variable{X:Cx}{a b:Expr}{da db:D}{pos p:Pos}
theorem ug{elts:List Expr}{x1:Nat}{hZ apos jl:Pos}(ha:CE X a da)(pA:attributeBase a "items" X.env (eval a X.env)=eval a X.env:=by rfl)(sV:(apos.endLine==jl.line)=true:=by rfl) :
  CI X (.Tuple elts x1 hZ) (.Call (.Attribute a "items" apos) [] [] jl) (kT da) :=
 PI.imp (GC ha pA sV) λσ H R0 ax=>by
  obtain⟨F,α,e,μ,S,h⟩:=ax
  refine⟨F,α,e,μ,S,(R.wp_bind h).mono (λx μ1 h v H1 F1 α1 x1 S1 o1=>?_) λ_ _ h=>h⟩
  obtain⟨kts,ht,post⟩:=R.bL (R.wp_bind h)
  obtain⟨t,hr,ht⟩:=Option.bind_eq_some_iff.mp ht
  have n1:=bo S1.st o1 hr
  cases t with
  | dct us =>
   cases ht
   obtain⟨d,kvs,rfl,hq,hl⟩:=n1
   have hlen:=hl.length
   refine⟨d,kvs,rfl,hq,post _ H1 F1 α1 x1 S1 λF2 α2 μ2 H2 s2 p2 S2 same=>?_⟩
   obtain⟨d',qr,e1,hq2,hl2⟩:=bo S2 (o1.mono s2 p2) ((show rd μ2 x=rd μ1 x from same).trans hr)
   cases e1
   have Ky:=hl2.length
   refine⟨λi t hi=>?_,⟨qr,hq2,by lia,?_⟩⟩
   ·unfold e8 at hi
    rw[List.getElem?_map] at hi
    obtain⟨p,hp,rfl⟩:=Option.map_eq_some_iff.mp hi
    obtain⟨v,hv,rv⟩:=hl2.get hp
    refine⟨⟨qr,(p.1,v),hq2,by lia,hv⟩,?_⟩
    rintro z H3 ⟨q,p',rfl,hq',rfl,f⟩
    have w1:=f qr hq2
    rw[hv] at w1
    cases w1
    have g:bX F2 H2 (upd F2 q (.tup [kV p.1,v])) (upd H2 q (.tup [kV p.1,v])):=bX.new hq'
    refine⟨_,g,?_⟩
    rw[Rep]
    exact⟨q,_,rfl,SqT.of aV,.fM (Co p.1) (.fM (Rep.mono (g.same S2.ext) _ _ rv) .lP)⟩
   ·show kvs.length≤(e8 kts).length
    unfold e8
    rw[List.length_map]
    lia
  | _=>cases ht
theorem GD(hm:X.mg "list"=none)(ha:CE X a da)(hc:X.calm=true:=by rfl)(hg:Gl X "list":=by rfl)(hs1:starEach [a] X.env=(false,eval a X.env)::starEach [] X.env:=by rfl)(hpl:(backTo pos (starEach [] X.env)).any (·.1)=false:=by rfl) :
  CF X (.Call (.Name "list" p) [a] [] pos) (dUn B5 da):=FX (A7 hc) (by
 intro F H v t w Q s hv hw q
 cases t with
 | dct ts =>
  cases hw
  obtain⟨a,vs,rfl,hq,hl⟩:=hv
  exact⟨a,vs,rfl,hq,λl hp=>q l _ hp ⟨_,aV,hl.keys⟩⟩
 | _=>cases hw) hm (by decide +kernel) ha hg (by decide) (by decide) hs1 hpl
end
section
variable{X:Cx}{a b:Expr}{da db:D}{pos p:Pos}{k:Nat}
theorem GF{t:TE}{d:D}(h:PT X a (tB t))(i:∀σ H Q,tD X d σ H Q→t σ H Q):CT X a d:=PT.imp h λσ H Q ax=>by
 obtain⟨F,α,e,μ,S,q⟩:=ax
 refine i σ H _ ⟨F,α,e,μ,S,q.mono (λx μ1 eA v H1 F1 α1 x1 S1 o1=>?_) λ_ _ h=>h⟩
 obtain⟨k,e1,q⟩:=eA
 subst e1
 exact⟨k,Rep.jr (K:=X.K) (F:=F1) o1,q H1 F1 α1 x1 S1⟩
theorem JG(hr:eS k X.A)(ha:CE X a da)(hb:CE X b db)(hm:behindInMarks .NotIn b=false:=by with_unfolding_all rfl):CT X (.Compare a [.NotIn] [b] pos) (ai wo da db):=GF (K4 (Dg (uf hr) ha hb) hm) DY
end
end Fw
namespace L2
open PySem PySem.Spec PyProof.Rows
open AutoSeq1 (wpAny_loadPart')
theorem GG{prog:Program}{w:World}{A:Around}{k:Bool}(hh:A.handled=none)(it l:Addr)(hne:l≠it)(items:Array Value) :
  Draws prog w A it [it,l] items.size (λi v=>items[i]?=some v) (λi h=>KIt k h it l i∧KSq k h l items) where
 live:=λ_ _ st=>by obtain⟨o,ho,_⟩:=st.1.ob;exact⟨o,ho⟩
 frame:=λ_ _ _ st hk=>⟨st.1.at λo e=>hk it (by simp) o e,st.2.at λo e=>hk l (by simp) o e⟩
 item:=λi s Q E hi st hQ=>eM st.1 st.2 (x:=items[i]) (by simp[hi]) λh' Q5 hs'=>hQ _ h' s.toks (by simp[hi]) ⟨Q5,st.2.at λo e=>hs'.extBut _ _ hne e⟩ hs'
 done:=λs Q E st hE=>ji hh st.1 st.2 (by simp) hE
noncomputable abbrev eH (k : Bool) (h : Heap) (l : Addr) : Heap := (h.push (bZ k l)).push { cls := .type "enumerate", data := .fields #[.none, .bool false, .ref h.objs.size, rawInt 0, .none, .none] }
set_option maxHeartbeats 4000000 in
theorem D0(l:Addr)(items:Array Value)(n:Nat)(dct:Option Addr)(sl:Array (Option Value)) :
  Meets (Builtin.«enumerate.__new__» ⟨[.type "enumerate",.ref l],[]⟩) (λ_ R s=>s.heap.get? l=some { cls:=.type "tuple",dict:=dct,data:=.seq items n,slots:=sl } ∧
   R (.ok (.ret (.ref (s.heap.push (bZ false l)).objs.size))) { s with heap:=eH false s.heap l }) :=
 .of_wp λprog w A R s h=>by
  obtain⟨hp,g,d,tk,os⟩:=s
  obtain⟨hl,h⟩:=h
  have zp:=sub_enumerate
  have hT:Heap.IsTuple (Shared.heap ⟨hp,g,d,tk,os⟩) l items:=⟨_,hl,rfl,n,rfl⟩
  wp_walk using wpAny_loadPart' hl
  refine wpAny_stack_any λst=>wpAny_pure ?_
  split
  ·rename_i c _ _ _ _ _
   cases (c==Value.type "enumerate")
   ·(wp_walk using wpAny_loadPart' hl,wpAny_pyIter_tuple hT);exact⟨_,rfl,h⟩
   ·(wp_walk using wpAny_loadPart' hl,wpAny_pyIter_tuple hT);exact⟨_,rfl,h⟩
  ·(wp_walk using wpAny_loadPart' hl,wpAny_pyIter_tuple hT);exact⟨_,rfl,h⟩
section
variable{prog:Program}{w:World}{A:Around}{E:Value→Shared→Prop}{s:Shared}
theorem A8{k:Bool}{l:Addr}{xs:Array Value}{Q:Value→Shared→Prop}(hl:KSq k s.heap l xs)
  (h:∀h',IsEnum h' (s.heap.objs.size+1) s.heap.objs.size 0 .none→KIt k h' s.heap.objs.size l 0→h'.objs.size=s.heap.objs.size+2→(∀c o,s.heap.get? c=some o→h'.get? c=some o)→Q (.ref (s.heap.objs.size+1)) { s with heap:=h' }) :
  wpAny (model prog w) A (call (.type "enumerate") [.ref l]) Q E s:=by
 cases k with
 | true=>exact call_enumerate_list hl h
 | false =>
  obtain⟨⟨c,dct,dt,sl⟩,hg,hc,n,hd⟩:=hl
  simp only at hc hd
  subst hc hd
  refine callType_new F.called_enumerate (by decide) (F.typeCall_enumerate_1 _) (F.newCall_enumerate_1 _) (λobj=>F.args_object_init_2 obj _) F.entry_enumerate_new (D0 l xs n dct sl) ⟨hg,?_⟩
  have z1:(s.heap.push (bZ false l)).objs.size=s.heap.objs.size+1:=Heap.size_push ..
  have g2:(eH false s.heap l).get? (s.heap.push (bZ false l)).objs.size=some _:=Heap.get?_push_size _ rfl
  have g1:(eH false s.heap l).get? s.heap.objs.size=some (bZ false l):=Heap.get?_push_of_some _ (Heap.get?_push_size _ rfl)
  show _∧_
  rw[z1] at g2
  rw[z1]
  exact⟨⟨_,g2,rfl⟩,h _ g2 (KIt.new g1) (by rw[Heap.size_push,z1]) λc o q=>Heap.get?_push_of_some _ (Heap.get?_push_of_some _ q)⟩
end
def Ite(K:PySem.W.Frag)(k:Bool)(a:Addr):It :=
 ⟨λi H=>∃xs x,fg K k H a xs∧xs[i]?=some x,
  λi H v H'=>∃p x,v = .ref p∧H p=none∧H'=upd H p (.tup [.int (i:Int),x])∧∀xs,fg K k H a xs→xs[i]?=some x,
  λi H=>∃xs,fg K k H a xs∧xs.length=i⟩
structure ESt(k:Bool)(z i1 l1:Addr)(i:Nat)(h:Heap):Prop where
 z:∃old,IsEnum h z i1 (i:Int) old
 one:KIt k h i1 l1 i
theorem D1{P:Program}{w:World}{K:PySem.W.Frag}{elts:List Expr}{x1:Nat}{pos:Pos}{k:Bool}{z i1 l1:Addr}(d:z≠i1) :
  Turn P w K (.Tuple elts x1 pos) (Ite K k l1) [z,i1] z (ESt k z i1 l1):=by
 refine⟨by simp,λi h st b hb=>?_,λi h h' st k'=>?_,?_,?_,λA i s Q E st hq=>?_⟩
 ·obtain⟨old,hz⟩:=st.z
  obtain⟨o1,e1,q1⟩:=st.one.ob
  simp only[List.mem_cons,List.not_mem_nil,or_false] at hb
  rcases hb with rfl|rfl
  ·exact⟨_,hz,λv e=>by cases e⟩
  ·exact⟨_,e1,λv e=>by rw[q1] at e;cases e⟩
 ·obtain⟨old,hz⟩:=st.z
  exact⟨⟨old,k' z (by simp) _ hz⟩,st.one.at λo e=>k' i1 (by simp) o e⟩
 ·intro X hP hw hK hc i pins s σ H E I hf st hg
  obtain⟨xs,x,h1,hx⟩:=hg
  subst hP hw hK
  obtain⟨qB,r1,s1,z1⟩:=I.ksq h1
  obtain⟨u,hu,ru⟩:=r1.get hx
  obtain⟨old,hz⟩:=st.z
  have hli:l1≠i1:=fO I h1 (hf i1 (by simp))
  have hlz:l1≠z:=fO I h1 (hf z (by simp))
  obtain⟨o1,e1,_⟩:=st.one.ob
  have hlt:i<qB.toArray.size:=by
   have:=(List.getElem?_eq_some_iff.mp hu).1
   simpa using this
  have hne:z∉[i1,l1]:=by
   simp only[List.mem_cons,List.not_mem_nil,or_false,not_or]
   exact⟨d,λe=>hlz e.symm⟩
  refine wpAny_pyNext_enum_itemD (GG (k:=k) (A:=X.A.in1) (I.ok.hd hc) i1 l1 hli qB.toArray) hz ⟨st.one,s1⟩ hlt d hne λy h' tk hy g1 g2 g3 g4 g5=>⟨_,rfl,?_⟩
  have ey:y=u:=by
   have hy:qB[i]?=some y:=by simpa using hy
   rw[hu] at hy
   exact (Option.some.inj hy).symm
  subst ey
  refine wpAny_letOwnedTupleGo_enum g1 λh'' q1 q2=>?_
  have lt:∀{c:Addr}{o:Obj},s.heap.get? c=some o→c≠s.heap.objs.size:=λe=>Nat.ne_of_lt (Heap.lt_size e)
  have hTz:s.heap.objs.size≠z:=(lt hz).symm
  have new:h''.get? s.heap.objs.size=some { cls:=.type "tuple",data:=.seq #[.int i tk,y] }:=q2.extBut _ _ hTz g3
  refine⟨.ref s.heap.objs.size,upd H s.heap.objs.size (.tup [.int (i:Int),x]),?_,rfl,⟨s.heap.objs.size,x,rfl,I.hok.fresh (Nat.le_refl _),rfl,λws hw=>by rw[I.nD hw h1];exact hx⟩,?_,λc hcm=>?_⟩
  ·refine (I.sH (ch:=[z,i1]) (h':=h'') (λc o hcn e=>?_) (λc hcm=>hf c hcm) ?_).tok _
   ·simp at hcn
    exact q2.extBut _ _ hcn.1 (g5 c o hcn.1 hcn.2 e)
   ·exact⟨by show 2≤sizeLine;decide,[.int i tk,y],.cons ⟨tk,rfl⟩ (.cons ru .nil),⟨_,new,rfl,0,rfl⟩⟩
  ·exact⟨⟨_,by simpa using q1⟩,g2.1.at λo e=>q2.extBut _ _ d.symm e⟩
  ·rw[aQ]
   ·exact (hf c hcm).1
   ·simp only[List.mem_cons,List.not_mem_nil,or_false] at hcm
    rcases hcm with rfl|rfl
    ·exact lt hz
    ·exact lt e1
 ·intro X hP hw hK hc i pins s σ H E I hf st hg
  obtain⟨xs,h1,hle⟩:=hg
  subst hP hw hK
  obtain⟨qB,r1,s1,z1⟩:=I.ksq h1
  obtain⟨old,hz⟩:=st.z
  have hli:l1≠i1:=fO I h1 (hf i1 (by simp))
  have l1':=r1.length
  have en:qB.toArray.size=i:=by simp;lia
  refine wpAny_pyNext_enum_endD (GG (k:=k) (A:=X.A.in1) (I.ok.hd hc) i1 l1 hli qB.toArray) hz ⟨by rw[en];exact st.one,s1⟩ λh' g7=>⟨rfl,I.sG (t':=s.toks) (ch:=[z,i1]) (λc o hcn e=>?_) λc hcm=>hf c hcm⟩
  simp at hcn
  exact g7 c o hcn.2 e
 ·obtain⟨old,hz⟩:=st.z
  exact wpAny_pyIter_enum hz hq
def Mw(K:PySem.W.Frag)(t:TA):TI:=λσ H R=>t σ H λvs H1=>∃a k xs,vs=[.ref a]∧fg K k H1 a xs∧R (Ite K k a) H1
theorem JH{X:Cx}{elts:List Expr}{x1:Nat}{hZ p pos:Pos}{a:Expr}{t:TA}(hg:Gl X "enumerate")(hm:X.mg "enumerate"=none)(ha:PA X [a] t)(he:starEach [a] X.env=(false,eval a X.env)::starEach [] X.env)(hpl:(backTo pos (starEach [] X.env)).any (·.1)=false) :
  PI X (.Tuple elts x1 hZ) (.Call (.Name "enumerate" p) [a] [] pos) (Mw X.K t):=by
 intro pins s σ H R I h
 refine wpAny_Call_Name_kw (oi I hg hm PyProof.Rows.boot_enumerate ?_ (by decide) (by decide))
 refine PyProof.Rows.callWith_type1 (thn (ha pos pins s σ H _ I h) λus s1 ax=>?_) he hpl
 obtain⟨vs,H1,I1,r1,q1⟩:=ax
 obtain⟨c,k,xs,rfl,h1,q⟩:=q1
 obtain⟨u1,rfl,ru1⟩:=vals1 r1
 cases ru1
 obtain⟨qB,_,s1',_⟩:=I1.ksq h1
 refine A8 s1' λh' g1 g2 g6 g7=>wpAny_pyIter_enum g1 ?_
 have I2:Inv X pins σ H1 { s1 with heap:=h' }:=I1.kept (t':=s1.toks) g7
 refine⟨_,_,_,_,H1,rfl,I2,D1 (k:=k) (i1:=s1.heap.objs.size) (l1:=c) (λe=>by have e:s1.heap.objs.size+1=s1.heap.objs.size:=e;lia),⟨⟨_,g1⟩,g2⟩,λe he=>?_,q⟩
 have:s1.heap.objs.size≤e:=by
  simp only[List.mem_cons,List.not_mem_nil,or_false] at he
  rcases he with rfl|rfl
  ·exact Nat.le_add_right _ _
  ·exact Nat.le_refl _
 exact I1.yG this (I1.hok.fresh this)
end L2
namespace Fw
open PySem PySem.Spec PyProof.Rows L2
theorem JI{X:Cx}{elts:List Expr}{x1:Nat}{hZ p pos:Pos}{a:Expr}{da:D}(hm:X.mg "enumerate"=none)(ha:CE X a da)(hg:Gl X "enumerate":=by rfl)(hs:starEach [a] X.env=(false,eval a X.env)::starEach [] X.env:=by rfl)(hpl:(backTo pos (starEach [] X.env)).any (·.1)=false:=by rfl) :
  CI X (.Tuple elts x1 hZ) (.Call (.Name "enumerate" p) [a] [] pos) (Cf da) :=
 PI.imp (JH hg hm (af ha az hs) hs hpl) λσ H R0 ax=>by
  obtain⟨F,α,e,μ,S,h⟩:=ax
  refine wa ⟨F,α,e,μ,S,(R.wp_bind h).mono (λx μ1 h v H1 F1 α1 x1 S1 o1=>?_) λ_ _ h=>h⟩
  obtain⟨ts,ht,post⟩:=R.bL (R.wp_bind h)
  obtain⟨t,hr,ht⟩:=Option.bind_eq_some_iff.mp ht
  obtain⟨a1,vs1,k1,rfl,q1,r1,m1⟩:=fF S1.st.ext (bo S1.st o1 hr) ht
  refine⟨a1,k1,vs1,rfl,q1,post _ H1 F1 α1 x1 S1 λF2 α2 μ3 H2 s2 p2 S2 same=>?_⟩
  have e1:rd μ3 x=rd μ1 x:=same
  obtain⟨b1,ws1,j1,g1,n1,l1,m1'⟩:=fF S2.ext (bo S2 (o1.mono s2 p2) (e1.trans hr)) ht
  cases g1
  have ej1:j1=k1:=by rw[Bool.eq_iff_iff,m1,m1']
  subst ej1
  refine⟨λi t hi=>?_,?_⟩
  ·obtain⟨c,hc,rfl⟩:=wu hi
   obtain⟨v1,hv1,rv1⟩:=l1.get hc
   refine⟨⟨ws1,v1,n1,hv1⟩,?_⟩
   rintro z H3 ⟨q,z1,rfl,hq,rfl,f1⟩
   have w1:=f1 ws1 n1
   rw[hv1] at w1
   cases w1
   have g:bX F2 H2 (upd F2 q (.tup [.int (i:Int),v1])) (upd H2 q (.tup [.int (i:Int),v1])):=bX.new hq
   refine⟨_,g,?_⟩
   rw[Rep]
   rw[Int.zero_add]
   exact⟨q,_,rfl,SqT.of aV,aI.mono (g.same S2.ext) _ _ (.fM (Rep.jJ _) (.fM rv1 .lP))⟩
  ·refine⟨ws1,n1,?_⟩
   have:=l1.length
   show ws1.length=(jt 0 ts).length
   rw[wt]
   lia
end Fw
namespace L2
open PySem PySem.Spec PyProof.Rows
end L2
namespace Fw
open PySem PySem.Spec PyProof.Rows L2
section
variable{K:PySem.W.Frag}
theorem zy{F:Hp}{t:T}{v:V}(h:Rep K F t v)(f:mv t=true):nX v=true∧∀{t':T}{v':V},Rep K F t' v'→mv t'=true→eqV v v'=eqT t t':=by
 cases t with
 | non=>cases h.kN;exact⟨rfl,λ{t' v'} h' f'=>by
   cases t' with
   | non=>cases h'.kN;simp[eqV,eqT]
   | bl b=>cases h'.jr;simp[eqV,eqT]
   | int b=>cases h'.mj;simp[eqV,eqT]
   | str b=>cases h'.ow;simp[eqV,eqT]
   | _=>cases f'⟩
 | bl c=>cases h.jr;exact⟨rfl,λ{t' v'} h' f'=>by
   cases t' with
   | non=>cases h'.kN;simp[eqV,eqT]
   | bl b=>cases h'.jr;simp[eqV,eqT]
   | int b=>cases h'.mj;simp[eqV,eqT]
   | str b=>cases h'.ow;simp[eqV,eqT]
   | _=>cases f'⟩
 | int c=>cases h.mj;exact⟨rfl,λ{t' v'} h' f'=>by
   cases t' with
   | non=>cases h'.kN;simp[eqV,eqT]
   | bl b=>cases h'.jr;simp[eqV,eqT]
   | int b=>cases h'.mj;simp[eqV,eqT]
   | str b=>cases h'.ow;simp[eqV,eqT]
   | _=>cases f'⟩
 | str c=>cases h.ow;exact⟨rfl,λ{t' v'} h' f'=>by
   cases t' with
   | non=>cases h'.kN;simp[eqV,eqT]
   | bl b=>cases h'.jr;simp[eqV,eqT]
   | int b=>cases h'.mj;simp[eqV,eqT]
   | str b=>cases h'.ow;simp[eqV,eqT]
   | _=>cases f'⟩
 | _=>cases f
theorem wB{F:Hp}{t:T}{v:V}(h:Rep K F t v)(f:mv t=true):∀{us:List T}{vs:List V},aI K F us vs→us.all mv=true→vs.all nX=true∧inV v vs=inT t us
 | [],vs,r,_=>by rw[aI] at r;subst r;exact⟨rfl,rfl⟩
 | u::us,vs,r,hf=>by
  rw[aI] at r
  obtain⟨v1,vs1,rfl,r1,r2⟩:=r
  rw[List.all_cons,Bool.and_eq_true] at hf
  obtain⟨a,b⟩:=wB h f r2 hf.2
  obtain⟨c,d⟩:=zy r1 hf.1
  refine⟨by rw[List.all_cons,c,a];rfl,?_⟩
  unfold inV inT at b ⊢
  rw[List.any_cons,List.any_cons,b,d h f]
theorem Now.flat{F H:Hp}{v:V}{t:T}(h:Now K F H v t)(f:mv t=true):Rep K F t v:=by
 cases t with
 | non=>exact h
 | bl b=>exact h
 | int b=>exact h
 | str b=>exact h
 | _=>cases f
theorem Mx:fN K (rIn K false) fIn:=by
 intro F H v u t t' w Q s hv hu hw q
 unfold fIn at hw
 cases e:bw t' with
 | none=>rw[e] at hw;cases hw
 | some us =>
  rw[e] at hw
  simp only at hw
  by_cases hf:(mv t && us.all mv)=true
  ·rw[if_pos hf] at hw
   cases hw
   rw[Bool.and_eq_true] at hf
   obtain⟨a,vs,k,rfl,hq,hl,_⟩:=fF s hu e
   obtain⟨f1,f2⟩:=wB (hv.flat hf.1) hf.1 hl hf.2
   have fx:=(zy (hv.flat hf.1) hf.1).1
   refine⟨a,vs,rfl,?_,fx,f1,?_⟩
   ·cases k with
    | true=>exact .inl hq
    | false=>exact .inr hq
   ·rw[f2];exact q _ H F bX.refl (Rep.bl' _)
  ·rw[if_neg hf] at hw;cases hw
theorem GH(i:Int)(h:0≤i):Builtin.bitAnd i 1=i%2:=by
 obtain⟨n,rfl⟩:=Int.eq_ofNat_of_zero_le h
 unfold Builtin.bitAnd
 simp[Nat.and_one_is_mod]
end
section
variable{X:Cx}{a b c:Expr}{da db dc:D}{pos p p2:Pos}{k:Nat}
theorem Kz(hr:eS k X.A)(ha:CE X a da)(hb:CE X b db)(hm:behindInMarks .In b=false:=by with_unfolding_all rfl):CT X (.Compare a [.In] [b] pos) (ai fIn da db):=qw C_ Mx hm ha hb
theorem Cp(hm:X.mg "int"=none)(ha:CE X a da)(hg:Gl X "int":=by rfl)(hs1:starEach [a] X.env=(false,eval a X.env)::starEach [] X.env:=by rfl)(hpl:(backTo pos (starEach [] X.env)).any (·.1)=false:=by rfl) :
  CE X (.Call (.Name "int" p) [a] [] pos) (dUn DE da):=FW C8 (by
 intro F H v t w Q s hv hw q
 cases t with
 | int i=>cases hw;cases hv.int;exact .inl ⟨i,rfl,q _ H F bX.refl (Rep.jJ _)⟩
 | bl i=>cases hw;cases Rep.jr (K:=X.K) (F:=F) hv;exact .inr ⟨i,rfl,q _ H F bX.refl (Rep.jJ _)⟩
 | _=>cases hw) hm (by decide +kernel) ha hg (by decide) (by decide) hs1 hpl
theorem qC(i j l:Nat){x y z:Str}{px py pz:Pos}{k:Nat}(hN:X.N.Nodup)(hc:X.calm=true)(hi:X.N[i]?=some x:=by rfl)(hj:X.N[j]?=some y:=by rfl)(hl:X.N[l]?=some z:=by rfl)(hx:Loc X.env.scope x:=by first|exact Or.inl rfl|exact Or.inr rfl)
  (hy:Loc X.env.scope y:=by first|exact Or.inl rfl|exact Or.inr rfl) (hz:Loc X.env.scope z:=by first|exact Or.inl rfl|exact Or.inr rfl)
  (hf:X.fn x=true∨X.env.scope.names.lookup x=some .local:=by first|exact .inl rfl|exact .inr rfl|assumption) (hf':X.fn y=true∨X.env.scope.names.lookup y=some .local:=by first|exact .inl rfl|exact .inr rfl|assumption)
  (Q6:X.fn z=true∨X.env.scope.names.lookup z=some .local:=by first|exact .inl rfl|exact .inr rfl|assumption)
  : CB X (.Tuple [.Name x px,.Name y py,.Name z pz] k pos) (b4 [i,j,l]) :=
 PG.imp (EV hc (jk (jK hN hi hx hf) (jk (jK hN hj hy hf') (jk (jK hN hl hz Q6) wU)))) λv σ H Q ax=>by
  obtain⟨F,α,e,μ,t,e',S,r,hb,q⟩:=ax
  cases t with
  | tup ts =>
   unfold b4 at hb
   simp only at hb
   by_cases hl:ts.length=[i,j,l].length
   ·rw[if_pos hl] at hb
    rw[Rep] at r
    obtain⟨a,vs,rfl,hq,hr⟩:=r
    match ts,vs,hl,hr with
    | [t1,t2,t3],vs,_,hr =>
     rw[aI] at hr
     obtain⟨v1,vs1,rfl,r1,hr⟩:=hr
     rw[aI] at hr
     obtain⟨v2,vs2,rfl,r2,hr⟩:=hr
     rw[aI] at hr
     obtain⟨v3,vs3,rfl,r3,hr⟩:=hr
     rw[aI] at hr
     subst hr
     cases hb
     exact⟨a,_,rfl,aX.kj S.st.ext hq,rfl,v1,[v2,v3],rfl,v2,[v3],rfl,v3,[],rfl,rfl,q _ (((S.set (x:=.val t1) r1).set (x:=.val t2) r2).set (x:=.val t3) r3)⟩
   ·rw[if_neg hl] at hb;cases hb
  | _=>cases hb
theorem A9{tg:Expr}{is:List Nat}(hg:CB X tg (b4 is))(he:CE X a da)(hs:swapsWithSole [tg] a pos.line X.env=pure false:=by rfl)(hw:swappedStores [tg] a X.env=pure none:=by rfl)
  (h1:(assignEach [tg] X.env).map (·.2)=[assign tg X.env]:=by rfl):CS X (.Assign [tg] a pos) (zj is da) :=
 PS.imp (Am he hg hs hw h1) λD σ H ⟨F,α,e,μ,S,h⟩ =>
  ⟨F,α,e,μ,S,(bc.toS h).mono (λx μ1 h v H1 F1 α1 x1 S1 o1=>by
   obtain⟨e',hb,hp⟩:=bc.lift h
   obtain⟨t,ht,hb⟩:=Option.bind_eq_some_iff.mp hb
   cases x with
   | val t'=>cases ht;exact⟨F1,α1,e,μ1,t,e',S1,o1,hb,λσ' S'=>hp σ' H1 F1 α1 x1 S'⟩
   | cel _=>cases ht
   | box _=>cases ht) λ_ _ h=>h⟩
end
end Fw
namespace L2
open PySem PySem.Spec PyProof.Rows
end L2
namespace Fw
open PySem PySem.Spec PyProof.Rows L2
theorem D2(i:Int):Builtin.bitAnd i 1=i%2:=by
 by_cases h:0≤i
 ·exact GH i h
 ·unfold Builtin.bitAnd
  rw[decide_eq_false h,decide_eq_true (show (0:Int)≤1 by omega)]
  show (1:Int)-(((1:Int).toNat &&& (Builtin.bitNot i).toNat:Nat):Int)=_
  rw[show (1:Int).toNat=1 from rfl,Nat.and_comm,Nat.and_one_is_mod]
  unfold Builtin.bitNot
  omega
theorem D3{K:PySem.W.Frag}:fN K (rI0 λi j => .int (Builtin.bitAnd i j)) oA:=by
 intro F H v u t t' w Q s hv hu hw q
 cases t<;>cases t'<;>first|cases hw|skip
 rename_i i j
 have hw:(if j=1 then some (T.int (i%2)) else none)=some w:=hw
 by_cases hc:j=1
 ·rw[if_pos hc] at hw
  cases hw
  subst hc
  cases hv.int
  cases hu.int
  refine⟨i,1,rfl,rfl,?_⟩
  show Q (V.int (Builtin.bitAnd i 1)) H
  rw[D2 i]
  exact q _ H F bX.refl (Rep.jJ _)
 ·rw[if_neg hc] at hw;cases hw
theorem GI{X:Cx}{a b:Expr}{da db:D}{pos:Pos}(ha:CE X a da)(hb:CE X b db):CE X (.BinOp a .BitAnd b pos) (ai oA da db):=ml Lv D3 ha hb
end Fw
namespace L2
open PySem PySem.Spec PyProof.Rows
noncomputable abbrev dR (h : Heap) (T : Addr) (a b c : Value) : Prop := h.get? T = some { cls := .type "tuple", data := .seq #[a, b, c] }
structure ZA3(z TI TO i1 i2 i3 l1 l2 l3:Addr):Prop where
 TIz:TI≠z
 TOz:TO≠z
 i1z:i1≠z
 i2z:i2≠z
 i3z:i3≠z
 TITO:TI≠TO
 TIi1:TI≠i1
 TIi2:TI≠i2
 OV:TI≠i3
 TOi1:TO≠i1
 TOi2:TO≠i2
 GJ:TO≠i3
 i12:i1≠i2
 i13:i1≠i3
 i23:i2≠i3
 l1z:l1≠z
 l2z:l2≠z
 l3z:l3≠z
 l2TO:l2≠TO
 My:l3≠TO
 l2i1:l2≠i1
 Mz:l3≠i1
 MA:l3≠i2
section
variable{prog:Program}{w:World}{A:Around}{E:Value→Shared→Prop}{s:Shared}
theorem cP{T:Addr}{a b c x:Value}{k:Nat}{Q:Unit→Shared→Prop}(hT:dR s.heap T a b c)
  (h:∀h',h'.get? T=some { cls:=.type "tuple",data:=.seq ((#[a,b,c]:Array Value).setIfInBounds k x) }→Heap.SameBut T s.heap h'→Q () { s with heap:=h' }) :
  wpAny (model prog w) A (updateSeq T (·.setIfInBounds k x)) Q E s:=by
 refine wpAny_updateSeq hT rfl (h _ ?_ (Heap.SameBut.update ..))
 rw[Heap.get?_update_self _ hT rfl]
 simp[Obj.mapSeq]
theorem A_{k1 k2 k3:Bool}{z TI TO i1 i2 i3 l1 l2 l3:Addr}{n1 n2 n3:Nat}{xs ys zs:Array Value}{x y v a b c:Value}{Q:Value→Shared→Prop}(D:ZA3 z TI TO i1 i2 i3 l1 l2 l3)
  (hz:IsZip s.heap z TI TO .none) (hTI:dR s.heap TI (.ref i1) (.ref i2) (.ref i3)) (hTO:dR s.heap TO a b c) (h1:KIt k1 s.heap i1 l1 n1) (h2:KIt k2 s.heap i2 l2 n2) (h3:KIt k3 s.heap i3 l3 n3) (hl1:KSq k1 s.heap l1 xs) (hl2:KSq k2 s.heap l2 ys) (hl3:KSq k3 s.heap l3 zs) (hx:xs[n1]?=some x) (hy:ys[n2]?=some y) (hv:zs[n3]?=some v)
  (hQ:∀h',IsZip h' z TI TO (rawInt s.heap.objs.size)→dR h' TO x y v→KIt k1 h' i1 l1 (n1+1)→KIt k2 h' i2 l2 (n2+1)→KIt k3 h' i3 l3 (n3+1)→dR h' s.heap.objs.size x y v→h'.objs.size=s.heap.objs.size+1 →
   (∀c o,c≠z→c≠TO→c≠i1→c≠i2→c≠i3→s.heap.get? c=some o→h'.get? c=some o)→Q (.ref s.heap.objs.size) { s with heap:=h' }) :
  wpAny (model prog w) A (Builtin.«zip.__next__» ⟨[.ref z],[]⟩) (λfin s'=>∃v,fin = .done (.ret v)∧Q v s') E s:=by
 show wpAny _ _ (field (.ref z) 2>>=_) _ _ _;refine wpAny_bind (wpAny_field hz rfl (x:=.bool false) rfl ?_)
 show wpAny _ _ (field (.ref z) 3>>=_) _ _ _;refine wpAny_bind (wpAny_field hz rfl (x:=.ref TI) rfl ?_)
 refine wpAny_bind (wpAny_seqItems hTI rfl ?_);show wpAny _ _ (Builtin.SmallTypes.ownedTupleIsFree (.ref z)>>=_) _ _ _;refine wpAny_bind ?_
 unfold Builtin.SmallTypes.ownedTupleIsFree;refine wpAny_bind (wpAny_field hz rfl (x:=.none) rfl (wpAny_pure ?_))
 simp only[if_true];refine wpAny_bind (wpAny_rule ?_);refine wpAny_bind (wpAny_field hz rfl (x:=.ref TO) rfl ?_)
 refine wpAny_bind (wpAny_setField_rec hz (by simp) λg₁ hz₁ hs₁=>?_);replace hz₁:IsZip g₁ z TI TO .ellipsis:=hz₁
 refine wpAny_bind ?_;simp only[List.zipIdx_cons,List.zipIdx_nil,List.forIn_cons,List.forIn_nil];refine wpAny_bind (wpAny_bind (wpAny_onRaise ?_))
 show wpAny _ _ (Builtin.SmallTypes.nextOf (.ref i1)>>=_) _ _ _
 refine wpAny_bind (eM (h1.at λo e=>hs₁.extBut _ _ D.i1z e) (hl1.at λo e=>hs₁.extBut _ _ D.l1z e) hx λg₂ h1₂ hs₂=>wpAny_pure ?_)
 have hTO₂:dR g₂ TO a b c:=hs₂.extBut _ _ D.TOi1 (hs₁.extBut _ _ D.TOz hTO)
 refine wpAny_bind (wpAny_seqItems hTO₂ rfl ?_);refine wpAny_bind (cP hTO₂ λg₃ hTO₃ hs₃=>?_)
 replace hTO₃:dR g₃ TO x b c:=hTO₃;refine wpAny_bind (wpAny_letGo (wpAny_pure ?_));refine wpAny_bind (wpAny_bind (wpAny_onRaise ?_))
 show wpAny _ _ (Builtin.SmallTypes.nextOf (.ref i2)>>=_) _ _ _
 refine wpAny_bind (eM (h2.at λo e=>hs₃.extBut _ _ D.TOi2.symm (hs₂.extBut _ _ D.i12.symm (hs₁.extBut _ _ D.i2z e))) (hl2.at λo e=>hs₃.extBut _ _ D.l2TO (hs₂.extBut _ _ D.l2i1 (hs₁.extBut _ _ D.l2z e))) hy λg₄ h2₄ hs₄=>wpAny_pure ?_)
 have hTO₄:dR g₄ TO x b c:=hs₄.extBut _ _ D.TOi2 hTO₃
 refine wpAny_bind (wpAny_seqItems hTO₄ rfl ?_);refine wpAny_bind (cP hTO₄ λg₅ hTO₅ hs₅=>?_)
 replace hTO₅:dR g₅ TO x y c:=hTO₅;refine wpAny_bind (wpAny_letGo (wpAny_pure ?_));refine wpAny_bind (wpAny_bind (wpAny_onRaise ?_))
 have up5:∀c o,c≠z→c≠TO→c≠i1→c≠i2→s.heap.get? c=some o→g₅.get? c=some o:=λc o c1 c2 c3 c4 e=>hs₅.extBut _ _ c2 (hs₄.extBut _ _ c4 (hs₃.extBut _ _ c2 (hs₂.extBut _ _ c3 (hs₁.extBut _ _ c1 e))))
 show wpAny _ _ (Builtin.SmallTypes.nextOf (.ref i3)>>=_) _ _ _
 refine wpAny_bind (eM (h3.at λo e=>up5 _ o D.i3z D.GJ.symm D.i13.symm D.i23.symm e) (hl3.at λo e=>up5 _ o D.l3z D.My D.Mz D.MA e) hv λg₆ h3₆ hs₆=>wpAny_pure ?_)
 have hTO₆:dR g₆ TO x y c:=hs₆.extBut _ _ D.GJ hTO₅
 refine wpAny_bind (wpAny_seqItems hTO₆ rfl ?_);refine wpAny_bind (cP hTO₆ λg₇ hTO₇ hs₇=>?_)
 replace hTO₇:dR g₇ TO x y v:=hTO₇;refine wpAny_bind (wpAny_letGo (wpAny_pure (wpAny_pure ?_)))
 refine wpAny_bind (wpAny_seqItems hTO₇ rfl ?_);refine wpAny_bind (wpAny_newTuple ?_)
 have hsz:g₇.objs.size=s.heap.objs.size:=by rw[hs₇.1,hs₆.1,hs₅.1,hs₄.1,hs₃.1,hs₂.1,hs₁.1]
 have hz₅:IsZip g₅ z TI TO .ellipsis:=hs₅.extBut _ _ D.TOz.symm (hs₄.extBut _ _ D.i2z.symm (hs₃.extBut _ _ D.TOz.symm (hs₂.extBut _ _ D.i1z.symm hz₁)))
 have hz₇':IsZip g₇ z TI TO .ellipsis:=hs₇.extBut _ _ D.TOz.symm (hs₆.extBut _ _ D.i3z.symm hz₅)
 have hk₇:∀c o,c≠z→c≠TO→c≠i1→c≠i2→c≠i3→s.heap.get? c=some o→g₇.get? c=some o:=λc o c1 c2 c3 c4 c5 e=>hs₇.extBut _ _ c2 (hs₆.extBut _ _ c5 (up5 c o c1 c2 c3 c4 e))
 have h1₇:KIt k1 g₇ i1 l1 (n1+1):=h1₂.at λo e=>hs₇.extBut _ _ D.TOi1.symm (hs₆.extBut _ _ D.i13 (hs₅.extBut _ _ D.TOi1.symm (hs₄.extBut _ _ D.i12 (hs₃.extBut _ _ D.TOi1.symm e))))
 have h2₇:KIt k2 g₇ i2 l2 (n2+1):=h2₄.at λo e=>hs₇.extBut _ _ D.TOi2.symm (hs₆.extBut _ _ D.i23 (hs₅.extBut _ _ D.TOi2.symm e))
 have h3₇:KIt k3 g₇ i3 l3 (n3+1):=h3₆.at λo e=>hs₇.extBut _ _ D.GJ.symm e
 have Gw:z<g₇.objs.size:=Heap.lt_size hz₇'
 show wpAny _ _ (Builtin.SmallTypes.ownedTupleHandOut (.ref z) (.ref g₇.objs.size)>>=_) _ _ _;refine wpAny_bind ?_
 unfold Builtin.SmallTypes.ownedTupleHandOut
 have hz₈:IsZip (g₇.push { cls:=.type "tuple",data:=.seq #[x,y,v] }) z TI TO .ellipsis:=Heap.get?_push_of_some _ hz₇'
 refine wpAny_bind (wpAny_setField_rec hz₈ (by simp) λg₉ hz₉ hs₉=>?_);replace hz₉:IsZip g₉ z TI TO (rawInt g₇.objs.size):=hz₉
 refine wpAny_setField_rec hz₉ (by simp) λgf hzf hsf=>?_
 replace hzf:IsZip gf z TI TO (rawInt g₇.objs.size):=hzf
 have up:∀c o,c≠z→g₇.get? c=some o→gf.get? c=some o:=λc o c1 e=>hsf.extBut _ _ c1 (hs₉.extBut _ _ c1 (Heap.get?_push_of_some _ e))
 have hTf:dR gf g₇.objs.size x y v:=hsf.extBut _ _ (Nat.ne_of_gt Gw) (hs₉.extBut _ _ (Nat.ne_of_gt Gw) (Heap.get?_push_size _ rfl))
 have OW:gf.objs.size=g₇.objs.size+1:=by rw[hsf.1,hs₉.1,Heap.size_push]
 rw[hsz] at hzf hTf OW
 refine wpAny_pure ⟨_,rfl,?_⟩
 show Q (.ref g₇.objs.size) _
 rw[hsz]
 exact hQ gf hzf (up _ _ D.TOz hTO₇) (h1₇.at λo e=>up _ o D.i1z e) (h2₇.at λo e=>up _ o D.i2z e) (h3₇.at λo e=>up _ o D.i3z e) hTf OW λc o c1 c2 c3 c4 c5 e=>up c o c1 (hk₇ c o c1 c2 c3 c4 c5 e)
theorem D4{k1 k2 k3:Bool}{z TI TO i1 i2 i3 l1 l2 l3:Addr}{n1 n2 n3:Nat}{xs ys zs:Array Value}{a b c:Value}{Q:Fin→Shared→Prop}(hh:A.handled=none)(D:ZA3 z TI TO i1 i2 i3 l1 l2 l3)
  (hz:IsZip s.heap z TI TO .none) (hTI:dR s.heap TI (.ref i1) (.ref i2) (.ref i3)) (hTO:dR s.heap TO a b c) (h1:KIt k1 s.heap i1 l1 n1) (h2:KIt k2 s.heap i2 l2 n2) (h3:KIt k3 s.heap i3 l3 n3) (hl1:KSq k1 s.heap l1 xs) (hl2:KSq k2 s.heap l2 ys) (hl3:KSq k3 s.heap l3 zs) (ox:xs[n1]?=none∨ys[n2]?=none∨zs[n3]?=none)
  (hE:∀h' e,(∀c o,c≠z→c≠TO→c≠i1→c≠i2→c≠i3→s.heap.get? c=some o→h'.get? c=some o)→(∃o,h'.get? e=some o∧o.cls = .type "StopIteration")→E (.ref e) { s with heap:=h' }) :
  wpAny (model prog w) A (Builtin.«zip.__next__» ⟨[.ref z],[]⟩) Q E s:=by
 show wpAny _ _ (field (.ref z) 2>>=_) _ _ _;refine wpAny_bind (wpAny_field hz rfl (x:=.bool false) rfl ?_)
 show wpAny _ _ (field (.ref z) 3>>=_) _ _ _;refine wpAny_bind (wpAny_field hz rfl (x:=.ref TI) rfl ?_)
 refine wpAny_bind (wpAny_seqItems hTI rfl ?_);show wpAny _ _ (Builtin.SmallTypes.ownedTupleIsFree (.ref z)>>=_) _ _ _;refine wpAny_bind ?_
 unfold Builtin.SmallTypes.ownedTupleIsFree;refine wpAny_bind (wpAny_field hz rfl (x:=.none) rfl (wpAny_pure ?_))
 simp only[if_true];refine wpAny_bind (wpAny_rule ?_);refine wpAny_bind (wpAny_field hz rfl (x:=.ref TO) rfl ?_)
 refine wpAny_bind (wpAny_setField_rec hz (by simp) λg₁ hz₁ hs₁=>?_);replace hz₁:IsZip g₁ z TI TO .ellipsis:=hz₁
 refine wpAny_bind ?_;simp only[List.zipIdx_cons,List.zipIdx_nil,List.forIn_cons,List.forIn_nil];refine wpAny_bind (wpAny_bind (wpAny_onRaise ?_))
 show wpAny _ _ (Builtin.SmallTypes.nextOf (.ref i1)>>=_) _ _ _
 have h1':=h1.at λo e=>hs₁.extBut _ _ D.i1z e
 have Gy:=hl1.at λo e=>hs₁.extBut _ _ D.l1z e
 cases hx:xs[n1]? with
 | none =>
  refine wpAny_bind (ji hh h1' Gy hx λg₂ e hs₂ he=>?_)
  obtain⟨oe,hoe,hce⟩:=he
  have hz₂:IsZip g₂ z TI TO .ellipsis:=hs₂ _ _ D.i1z.symm hz₁
  have hez:e≠z:=λq=>by subst q;rw[hz₂] at hoe;cases hoe;simp at hce
  exact wpAny_setField_rec hz₂ (by simp) λg₃ _ hs₃=>hE g₃ e (λc o c1 _ c3 _ _ q=>hs₃.extBut _ _ c1 (hs₂ _ _ c3 (hs₁.extBut _ _ c1 q))) ⟨oe,hs₃.extBut _ _ hez hoe,hce⟩
 | some x =>
  refine wpAny_bind (eM h1' Gy hx λg₂ h1₂ hs₂=>wpAny_pure ?_)
  have hTO₂:dR g₂ TO a b c:=hs₂.extBut _ _ D.TOi1 (hs₁.extBut _ _ D.TOz hTO)
  refine wpAny_bind (wpAny_seqItems hTO₂ rfl ?_);refine wpAny_bind (cP hTO₂ λg₃ hTO₃ hs₃=>?_)
  replace hTO₃:dR g₃ TO x b c:=hTO₃
  refine wpAny_bind (wpAny_letGo (wpAny_pure ?_));refine wpAny_bind (wpAny_bind (wpAny_onRaise ?_))
  show wpAny _ _ (Builtin.SmallTypes.nextOf (.ref i2)>>=_) _ _ _
  have h2':=h2.at λo e=>hs₃.extBut _ _ D.TOi2.symm (hs₂.extBut _ _ D.i12.symm (hs₁.extBut _ _ D.i2z e))
  have OX:=hl2.at λo e=>hs₃.extBut _ _ D.l2TO (hs₂.extBut _ _ D.l2i1 (hs₁.extBut _ _ D.l2z e))
  cases hy:ys[n2]? with
  | none =>
   refine wpAny_bind (ji hh h2' OX hy λg₄ e hs₄ he=>?_)
   obtain⟨oe,hoe,hce⟩:=he
   have hz₄:IsZip g₄ z TI TO .ellipsis:=hs₄ _ _ D.i2z.symm (hs₃.extBut _ _ D.TOz.symm (hs₂.extBut _ _ D.i1z.symm hz₁))
   have hez:e≠z:=λq=>by subst q;rw[hz₄] at hoe;cases hoe;simp at hce
   exact wpAny_setField_rec hz₄ (by simp) λg₅ _ hs₅=>hE g₅ e (λc o c1 c2 c3 c4 _ q=>hs₅.extBut _ _ c1 (hs₄ _ _ c4 (hs₃.extBut _ _ c2 (hs₂.extBut _ _ c3 (hs₁.extBut _ _ c1 q))))) ⟨oe,hs₅.extBut _ _ hez hoe,hce⟩
  | some y =>
   have hv:zs[n3]?=none:=by
    rcases ox with h|h|h
    ·rw[hx] at h;cases h
    ·rw[hy] at h;cases h
    ·exact h
   refine wpAny_bind (eM h2' OX hy λg₄ h2₄ hs₄=>wpAny_pure ?_)
   have hTO₄:dR g₄ TO x b c:=hs₄.extBut _ _ D.TOi2 hTO₃
   refine wpAny_bind (wpAny_seqItems hTO₄ rfl ?_);refine wpAny_bind (cP hTO₄ λg₅ hTO₅ hs₅=>?_)
   refine wpAny_bind (wpAny_letGo (wpAny_pure ?_));refine wpAny_bind (wpAny_bind (wpAny_onRaise ?_))
   have up5:∀c o,c≠z→c≠TO→c≠i1→c≠i2→s.heap.get? c=some o→g₅.get? c=some o:=λc o c1 c2 c3 c4 e=>hs₅.extBut _ _ c2 (hs₄.extBut _ _ c4 (hs₃.extBut _ _ c2 (hs₂.extBut _ _ c3 (hs₁.extBut _ _ c1 e))))
   show wpAny _ _ (Builtin.SmallTypes.nextOf (.ref i3)>>=_) _ _ _
   refine wpAny_bind (ji hh (h3.at λo e=>up5 _ o D.i3z D.GJ.symm D.i13.symm D.i23.symm e) (hl3.at λo e=>up5 _ o D.l3z D.My D.Mz D.MA e) hv λg₆ e hs₆ he=>?_)
   obtain⟨oe,hoe,hce⟩:=he
   have hz₆:IsZip g₆ z TI TO .ellipsis:=hs₆ _ _ D.i3z.symm (hs₅.extBut _ _ D.TOz.symm (hs₄.extBut _ _ D.i2z.symm (hs₃.extBut _ _ D.TOz.symm (hs₂.extBut _ _ D.i1z.symm hz₁))))
   have hez:e≠z:=λq=>by subst q;rw[hz₆] at hoe;cases hoe;simp at hce
   exact wpAny_setField_rec hz₆ (by simp) λg₇ _ hs₇=>hE g₇ e (λc o c1 c2 c3 c4 c5 q=>hs₇.extBut _ _ c1 (hs₆ _ _ c5 (up5 c o c1 c2 c3 c4 q))) ⟨oe,hs₇.extBut _ _ hez hoe,hce⟩
theorem xC{k1 k2 k3:Bool}{z TI TO i1 i2 i3 l1 l2 l3:Addr}{n1 n2 n3:Nat}{xs ys zs:Array Value}{x y v a b c:Value}{Q:Option Value→Shared→Prop}(D:ZA3 z TI TO i1 i2 i3 l1 l2 l3)
  (hz:IsZip s.heap z TI TO .none) (hTI:dR s.heap TI (.ref i1) (.ref i2) (.ref i3)) (hTO:dR s.heap TO a b c) (h1:KIt k1 s.heap i1 l1 n1) (h2:KIt k2 s.heap i2 l2 n2) (h3:KIt k3 s.heap i3 l3 n3) (hl1:KSq k1 s.heap l1 xs) (hl2:KSq k2 s.heap l2 ys) (hl3:KSq k3 s.heap l3 zs) (hx:xs[n1]?=some x) (hy:ys[n2]?=some y) (hv:zs[n3]?=some v)
  (hQ:∀h',IsZip h' z TI TO (rawInt s.heap.objs.size)→dR h' TO x y v→KIt k1 h' i1 l1 (n1+1)→KIt k2 h' i2 l2 (n2+1)→KIt k3 h' i3 l3 (n3+1)→dR h' s.heap.objs.size x y v→h'.objs.size=s.heap.objs.size+1 →
   (∀c o,c≠z→c≠TO→c≠i1→c≠i2→c≠i3→s.heap.get? c=some o→h'.get? c=some o)→Q (some (.ref s.heap.objs.size)) { s with heap:=h' }):wpAny (model prog w) A (pyNext (.ref z)) Q E s:=by
 have hT:s.TypeIs (.ref z) "zip":=⟨_,hz,rfl⟩
 unfold pyNext
 exact wpAny_bind (wpAny_attempt (wpAny_callSpecial?_slot (name:=Str.ofString "__next__") hT F.slot_zip_next (wpAny_call_entry F.slot_zip_next hT F.entry_zip_next
  (A_ D hz hTI hTO h1 h2 h3 hl1 hl2 hl3 hx hy hv λh' a1 a2 a3 a4 a5 a6 a7 a8=>wpAny_pure (hQ h' a1 a2 a3 a4 a5 a6 a7 a8)) (F.args_zip_next_1 _))))
theorem zA{k1 k2 k3:Bool}{z TI TO i1 i2 i3 l1 l2 l3:Addr}{n1 n2 n3:Nat}{xs ys zs:Array Value}{a b c:Value}{Q:Option Value→Shared→Prop}(hh:A.handled=none)(D:ZA3 z TI TO i1 i2 i3 l1 l2 l3)
  (hz:IsZip s.heap z TI TO .none) (hTI:dR s.heap TI (.ref i1) (.ref i2) (.ref i3)) (hTO:dR s.heap TO a b c) (h1:KIt k1 s.heap i1 l1 n1) (h2:KIt k2 s.heap i2 l2 n2) (h3:KIt k3 s.heap i3 l3 n3) (hl1:KSq k1 s.heap l1 xs) (hl2:KSq k2 s.heap l2 ys) (hl3:KSq k3 s.heap l3 zs) (ox:xs[n1]?=none∨ys[n2]?=none∨zs[n3]?=none)
  (hQ:∀h',(∀c o,c≠z→c≠TO→c≠i1→c≠i2→c≠i3→s.heap.get? c=some o→h'.get? c=some o)→Q none { s with heap:=h' }):wpAny (model prog w) A (pyNext (.ref z)) Q E s:=by
 have hT:s.TypeIs (.ref z) "zip":=⟨_,hz,rfl⟩
 unfold pyNext
 refine wpAny_bind (wpAny_attempt (wpAny_callSpecial?_slot (name:=Str.ofString "__next__") hT F.slot_zip_next (wpAny_call_entry F.slot_zip_next hT F.entry_zip_next (D4 hh D hz hTI hTO h1 h2 h3 hl1 hl2 hl3 ox λh' e hk he=>?_) (F.args_zip_next_1 _))))
 obtain⟨o,ho,hc⟩:=he
 refine wpAny_bind (wpAny_isInstance (T:="StopIteration") (b:=true) ⟨o,ho,hc⟩ isSubtype_stop ?_);exact wpAny_pure (hQ _ hk)
theorem j6{k:Bool}{l:Addr}{xs:Array Value}{Q:Value→Shared→Prop}(hl:KSq k s.heap l xs)(h:Q (.ref s.heap.objs.size) { s with heap:=s.heap.push (bZ k l) }):wpAny (model prog w) A (pyIter (.ref l)) Q E s:=by
 cases k with
 | true=>exact wpAny_pyIter_list hl h
 | false=>exact wpAny_pyIter_tuple hl h
end
noncomputable abbrev yH3 (k1 k2 k3 : Bool) (h : Heap) (l1 l2 l3 : Addr) : Heap := ((h.push (bZ k1 l1)).push (bZ k2 l2)).push (bZ k3 l3)
noncomputable abbrev yTI (k1 k2 : Bool) (h : Heap) (l1 l2 : Addr) : Obj := { cls := .type "tuple", data := .seq #[.ref h.objs.size, .ref (h.push (bZ k1 l1)).objs.size, .ref ((h.push (bZ k1 l1)).push (bZ k2 l2)).objs.size] }
noncomputable abbrev yH4 (k1 k2 k3 : Bool) (h : Heap) (l1 l2 l3 : Addr) : Heap := (yH3 k1 k2 k3 h l1 l2 l3).push (yTI k1 k2 h l1 l2)
noncomputable abbrev yH5 (k1 k2 k3 : Bool) (h : Heap) (l1 l2 l3 : Addr) : Heap := (yH4 k1 k2 k3 h l1 l2 l3).push { cls := .type "tuple", data := .seq #[.none, .none, .none] }
noncomputable abbrev yH6 (k1 k2 k3 : Bool) (h : Heap) (l1 l2 l3 : Addr) : Heap := (yH5 k1 k2 k3 h l1 l2 l3).push { cls := .type "zip", data := .fields #[.none, .bool false, .bool false, .ref (yH3 k1 k2 k3 h l1 l2 l3).objs.size, .ref (yH4 k1 k2 k3 h l1 l2 l3).objs.size] }
theorem uh(a b c:Value):checkTypeCall "zip" ⟨[a,b,c],[]⟩=pure ():=by kernel_rfl
theorem vk(a b c:Value):checkBuiltinCall "zip.__new__" ⟨[.type "zip",a,b,c],[]⟩=pure ():=by kernel_rfl
theorem oB(a b c d:Value):argsOk "object.__init__" ⟨[a,b,c,d],[]⟩:=by
 unfold argsOk;rw[signature?_of (id:="object.__init__") (n:=['_','_','t','i','n','i','_','_']) (o:=['t','c','e','j','b','o']) (by kernel_rfl) F.owner_object];kernel_rfl
set_option maxHeartbeats 4000000 in
theorem GK(k1 k2 k3:Bool)(l1 l2 l3:Addr)(xs ys zs:Array Value) :
  Meets (Builtin.«zip.__new__» ⟨[.type "zip",.ref l1,.ref l2,.ref l3],[]⟩) (λ_ R s=>KSq k1 s.heap l1 xs∧KSq k2 s.heap l2 ys∧KSq k3 s.heap l3 zs∧R (.ok (.ret (.ref (yH5 k1 k2 k3 s.heap l1 l2 l3).objs.size))) { s with heap:=yH6 k1 k2 k3 s.heap l1 l2 l3 }) :=
 .of_wp λprog w A R s h=>by
  obtain⟨hp,g,d,tk,os⟩:=s;obtain⟨hl1,hl2,hl3,h⟩:=h
  have zp:=sub_zip
  have hL1:KSq k1 (Shared.heap ⟨hp,g,d,tk,os⟩) l1 xs:=hl1
  have hL2:KSq k2 (Shared.heap ⟨hp.push (bZ k1 l1),g,d,tk,os⟩) l2 ys:=hl2.at λo e=>Heap.get?_push_of_some _ e
  have hL3:KSq k3 (Shared.heap ⟨(hp.push (bZ k1 l1)).push (bZ k2 l2),g,d,tk,os⟩) l3 zs:=hl3.at λo e=>Heap.get?_push_of_some _ (Heap.get?_push_of_some _ e)
  wp_walk using j6 hL1,j6 hL2,j6 hL3
  exact⟨_,rfl,h⟩
section
variable{prog:Program}{w:World}{A:Around}{E:Value→Shared→Prop}{s:Shared}
theorem D5{k1 k2 k3:Bool}{l1 l2 l3:Addr}{xs ys zs:Array Value}{Q:Value→Shared→Prop}(hl1:KSq k1 s.heap l1 xs)(hl2:KSq k2 s.heap l2 ys)(hl3:KSq k3 s.heap l3 zs)
  (h:∀h',IsZip h' (s.heap.objs.size+5) (s.heap.objs.size+3) (s.heap.objs.size+4) .none→dR h' (s.heap.objs.size+3) (.ref s.heap.objs.size) (.ref (s.heap.objs.size+1)) (.ref (s.heap.objs.size+2))→dR h' (s.heap.objs.size+4) .none .none .none →
   KIt k1 h' s.heap.objs.size l1 0→KIt k2 h' (s.heap.objs.size+1) l2 0→KIt k3 h' (s.heap.objs.size+2) l3 0→(∀c o,s.heap.get? c=some o→h'.get? c=some o)→Q (.ref (s.heap.objs.size+5)) { s with heap:=h' }) :
  wpAny (model prog w) A (call (.type "zip") [.ref l1,.ref l2,.ref l3]) Q E s:=by
 refine callType_new F.called_zip (by decide) (uh _ _ _) (vk _ _ _) (λobj=>oB obj _ _ _) F.entry_zip_new (GK k1 k2 k3 l1 l2 l3 xs ys zs) ⟨hl1,hl2,hl3,?_⟩
 have z1:(s.heap.push (bZ k1 l1)).objs.size=s.heap.objs.size+1:=Heap.size_push ..
 have z2:((s.heap.push (bZ k1 l1)).push (bZ k2 l2)).objs.size=s.heap.objs.size+2:=by rw[Heap.size_push,z1]
 have z3:(yH3 k1 k2 k3 s.heap l1 l2 l3).objs.size=s.heap.objs.size+3:=by rw[Heap.size_push,z2]
 have z4:(yH4 k1 k2 k3 s.heap l1 l2 l3).objs.size=s.heap.objs.size+4:=by rw[Heap.size_push,z3]
 have z5:(yH5 k1 k2 k3 s.heap l1 l2 l3).objs.size=s.heap.objs.size+5:=by rw[Heap.size_push,z4]
 have up:∀{c:Addr}{o:Obj}{h:Heap}{q:Obj},h.get? c=some o→(h.push q).get? c=some o:=λe=>Heap.get?_push_of_some _ e
 have g6:(yH6 k1 k2 k3 s.heap l1 l2 l3).get? (yH5 k1 k2 k3 s.heap l1 l2 l3).objs.size=some _:=Heap.get?_push_size _ rfl
 have g5:(yH6 k1 k2 k3 s.heap l1 l2 l3).get? (yH4 k1 k2 k3 s.heap l1 l2 l3).objs.size=some _:=up (Heap.get?_push_size _ rfl)
 have g4:(yH6 k1 k2 k3 s.heap l1 l2 l3).get? (yH3 k1 k2 k3 s.heap l1 l2 l3).objs.size=some { cls:=.type "tuple",data:=.seq #[.ref s.heap.objs.size,.ref (s.heap.push (bZ k1 l1)).objs.size,.ref ((s.heap.push (bZ k1 l1)).push (bZ k2 l2)).objs.size] }:=up (up (Heap.get?_push_size _ rfl))
 have g3:(yH6 k1 k2 k3 s.heap l1 l2 l3).get? ((s.heap.push (bZ k1 l1)).push (bZ k2 l2)).objs.size=some (bZ k3 l3):=up (up (up (Heap.get?_push_size _ rfl)))
 have g2:(yH6 k1 k2 k3 s.heap l1 l2 l3).get? (s.heap.push (bZ k1 l1)).objs.size=some (bZ k2 l2):=up (up (up (up (Heap.get?_push_size _ rfl))))
 have g1:(yH6 k1 k2 k3 s.heap l1 l2 l3).get? s.heap.objs.size=some (bZ k1 l1):=up (up (up (up (up (Heap.get?_push_size _ rfl)))))
 show _∧_
 rw[z3,z4,z5] at g6;rw[z4] at g5;rw[z1,z2,z3] at g4;rw[z2] at g3;rw[z1] at g2;rw[z5]
 exact⟨⟨_,g6,rfl⟩,h _ g6 g4 g5 (KIt.new g1) (KIt.new g2) (KIt.new g3) λc o q=>up (up (up (up (up (up q)))))⟩
end
end L2
namespace L2
open PySem PySem.Spec PyProof.Rows
def OY(K:PySem.W.Frag)(k1 k2 k3:Bool)(a b c:Addr):It :=
 ⟨λi H=>∃xs ys zs x y z,fg K k1 H a xs∧fg K k2 H b ys∧fg K k3 H c zs∧xs[i]?=some x∧ys[i]?=some y∧zs[i]?=some z,
  λi H v H'=>∃p x y z,v = .ref p∧H p=none∧H'=upd H p (.tup [x,y,z])∧(∀xs,fg K k1 H a xs→xs[i]?=some x)∧(∀ys,fg K k2 H b ys→ys[i]?=some y)∧∀zs,fg K k3 H c zs→zs[i]?=some z,
  λi H=>∃xs ys zs,fg K k1 H a xs∧fg K k2 H b ys∧fg K k3 H c zs∧(xs.length≤i∨ys.length≤i∨zs.length≤i)⟩
structure OZ(k1 k2 k3:Bool)(z TI TO i1 i2 i3 l1 l2 l3:Addr)(i:Nat)(h:Heap):Prop where
 z:IsZip h z TI TO .none
 ti:dR h TI (.ref i1) (.ref i2) (.ref i3)
 to:∃a b c,dR h TO a b c
 one:KIt k1 h i1 l1 i
 two:KIt k2 h i2 l2 i
 tri:KIt k3 h i3 l3 i
theorem O0{P:Addr→Prop}{a b c d e f:Addr}(h1:P a)(h2:P b)(h3:P c)(h4:P d)(h5:P e)(h6:P f):∀x∈[a,b,c,d,e,f],P x:=by
 simp[h1,h2,h3,h4,h5,h6]
theorem KA{a b c d e f x:Addr}(h:x∈[a,c,d,e,f]):x∈[a,b,c,d,e,f]:=by
 simp at h ⊢
 rcases h with h|h|h|h|h<;>simp[h]
theorem O1{a b c d e x:Addr}(h:x∉[a,b,c,d,e]):x≠a∧x≠b∧x≠c∧x≠d∧x≠e:=by
 simpa using h
theorem D6 {P : Program} {w : World} {K : PySem.W.Frag} {elts : List Expr} {x1 : Nat} {pos : Pos} {k1 k2 k3 : Bool} {z TI TO i1 i2 i3 l1 l2 l3 : Addr} (d1 : TI ≠ TO) (d12 : i1 ≠ i2) (d13 : i1 ≠ i3) (d23 : i2 ≠ i3) :
    Turn P w K (.Tuple elts x1 pos) (OY K k1 k2 k3 l1 l2 l3) [z, TI, TO, i1, i2, i3] z (OZ k1 k2 k3 z TI TO i1 i2 i3 l1 l2 l3) := by
  have ap : ∀ {X : Cx} {pins : List (Addr × Obj)} {σ : L2.St} {H : Hp} {s : Shared} {i : Nat} {xs ys zs : List V}, X.K = K → Inv X pins σ H s → (∀ b ∈ [z, TI, TO, i1, i2, i3], lO X pins H b) → OZ k1 k2 k3 z TI TO i1 i2 i3 l1 l2 l3 i s.heap → fg K k1 H l1 xs → fg K k2 H l2 ys → fg K k3 H l3 zs → ZA3 z TI TO i1 i2 i3 l1 l2 l3 := by
    intro X pins σ H s i xs ys zs hK I hf st h1 h2 h3
    subst hK
    obtain ⟨a, b, c, hto⟩ := st.to
    obtain ⟨o1, e1, q1⟩ := st.one.ob
    obtain ⟨o2, e2, q2⟩ := st.two.ob
    obtain ⟨o3, e3, q3⟩ := st.tri.ob
    have neP : ∀ {c d : Addr} {o : Obj} {u v t : Value} {vs : Array Value}, dR s.heap c u v t → s.heap.get? d = some o → o.data = .fields vs → c ≠ d := fun {c d o u v t vs} hp ho hd e => by
      subst e
      have hp : s.heap.get? c = some { cls := .type "tuple", data := .seq #[u, v, t] } := hp
      rw [hp] at ho; cases ho; cases hd
    have neZ : ∀ {d : Addr} {l : Addr} {o : Obj} {n : Nat}, s.heap.get? d = some o → o.data = .fields #[.ref l, .int n 0] → d ≠ z := fun {d l o n} ho hd e => by
      subst e
      have hz : s.heap.get? d = some _ := st.z
      rw [hz] at ho; cases ho
      have : (#[Value.none, .bool false, .bool false, .ref TI, .ref TO] : Array Value) = #[.ref l, .int n 0] := by injection hd
      exact absurd (congrArg Array.size this) (by simp)
    have w : ∀ c ∈ [z, TI, TO, i1, i2, i3], l1 ≠ c ∧ l2 ≠ c ∧ l3 ≠ c := fun c hc => ⟨fO I h1 (hf c hc), fO I h2 (hf c hc), fO I h3 (hf c hc)⟩
    exact { TIz := neP st.ti st.z rfl, TOz := neP hto st.z rfl, i1z := neZ e1 q1, i2z := neZ e2 q2, i3z := neZ e3 q3, TITO := d1, TIi1 := neP st.ti e1 q1, TIi2 := neP st.ti e2 q2, OV := neP st.ti e3 q3, TOi1 := neP hto e1 q1, TOi2 := neP hto e2 q2, GJ := neP hto e3 q3, i12 := d12, i13 := d13, i23 := d23, l1z := (w z (.head _)).1, l2z := (w z (.head _)).2.1, l3z := (w z (.head _)).2.2, l2TO := (w TO (.tail _ (.tail _ (.head _)))).2.1, My := (w TO (.tail _ (.tail _ (.head _)))).2.2, l2i1 := (w i1 (.tail _ (.tail _ (.tail _ (.head _))))).2.1, Mz := (w i1 (.tail _ (.tail _ (.tail _ (.head _))))).2.2, MA := (w i2 (.tail _ (.tail _ (.tail _ (.tail _ (.head _)))))).2.2 }
  refine ⟨by simp, fun i h st => ?_, fun i h h' st k => ?_, ?_, ?_, fun A i s Q E st hq => wpAny_pyIter_zip st.z hq⟩
  · obtain ⟨a, b', c', hto⟩ := st.to
    obtain ⟨o1, e1, q1⟩ := st.one.ob
    obtain ⟨o2, e2, q2⟩ := st.two.ob
    obtain ⟨o3, e3, q3⟩ := st.tri.ob
    exact O0 ⟨_, st.z, fun v e => by cases e⟩ ⟨_, st.ti, fun v e => by cases e⟩ ⟨_, hto, fun v e => by cases e⟩ ⟨_, e1, fun v e => by rw [q1] at e; cases e⟩ ⟨_, e2, fun v e => by rw [q2] at e; cases e⟩ ⟨_, e3, fun v e => by rw [q3] at e; cases e⟩
  · obtain ⟨a, b', c', hto⟩ := st.to
    exact ⟨k z (.head _) _ st.z, k TI (.tail _ (.head _)) _ st.ti, ⟨a, b', c', k TO (.tail _ (.tail _ (.head _))) _ hto⟩, st.one.at fun o e => k i1 (.tail _ (.tail _ (.tail _ (.head _)))) o e, st.two.at fun o e => k i2 (.tail _ (.tail _ (.tail _ (.tail _ (.head _))))) o e, st.tri.at fun o e => k i3 (.tail _ (.tail _ (.tail _ (.tail _ (.tail _ (.head _)))))) o e⟩
  · intro X hP hw hK hc i pins s σ H E I hf st hg
    obtain ⟨xs, ys, zs, x, y, t, h1, h2, h3, hx, hy, hz⟩ := hg
    have D := ap hK I hf st h1 h2 h3
    subst hP hw hK
    obtain ⟨qB, r1, s1, z1⟩ := I.ksq h1
    obtain ⟨rT, r2, s2, z2⟩ := I.ksq h2
    obtain ⟨O2, r3, s3, z3⟩ := I.ksq h3
    obtain ⟨u, hu, ru⟩ := r1.get hx
    obtain ⟨v, hv, rv⟩ := r2.get hy
    obtain ⟨o, ho, ro⟩ := r3.get hz
    obtain ⟨a, b', c', hto⟩ := st.to
    refine xC D st.z st.ti hto st.one st.two st.tri s1 s2 s3 (x := u) (y := v) (v := o) (by simpa using hu) (by simpa using hv) (by simpa using ho) fun h' g1 g2 g3 g4 g5 g6 g7 g8 => ⟨_, rfl, ?_⟩
    refine wpAny_letOwnedTupleGo_zip g1 fun h'' q1 q2 => ?_
    have lt : ∀ {c : Addr} {o : Obj}, s.heap.get? c = some o → c ≠ s.heap.objs.size := fun e => Nat.ne_of_lt (Heap.lt_size e)
    have hTz : s.heap.objs.size ≠ z := (lt st.z).symm
    obtain ⟨o1, e1, _⟩ := st.one.ob
    obtain ⟨o2, e2, _⟩ := st.two.ob
    obtain ⟨o3, e3, _⟩ := st.tri.ob
    have new : dR h'' s.heap.objs.size u v o := q2.extBut _ _ hTz g6
    refine ⟨.ref s.heap.objs.size, upd H s.heap.objs.size (.tup [x, y, t]), ?_, rfl, ⟨s.heap.objs.size, x, y, t, rfl, I.hok.fresh (Nat.le_refl _), rfl, fun ws hw => by rw [I.nD hw h1]; exact hx, fun ws hw => by rw [I.nD hw h2]; exact hy, fun ws hw => by rw [I.nD hw h3]; exact hz⟩, ?_, fun c hcm => ?_⟩
    · refine I.sH (ch := [z, TO, i1, i2, i3]) (fun c o hcn e => ?_) (fun c hcm => hf c (KA hcm)) ?_
      · have hcn := O1 hcn
        exact q2.extBut _ _ hcn.1 (g8 c o hcn.1 hcn.2.1 hcn.2.2.1 hcn.2.2.2.1 hcn.2.2.2.2 e)
      · exact ⟨by show 3 ≤ sizeLine; decide, [u, v, o], .cons ru (.cons rv (.cons ro .nil)), ⟨_, new, rfl, 0, rfl⟩⟩
    · exact ⟨q1, q2.extBut _ _ D.TIz (g8 TI _ D.TIz D.TITO D.TIi1 D.TIi2 D.OV st.ti), ⟨_, _, _, q2.extBut _ _ D.TOz g2⟩, g3.at fun o e => q2.extBut _ _ D.i1z e, g4.at fun o e => q2.extBut _ _ D.i2z e, g5.at fun o e => q2.extBut _ _ D.i3z e⟩
    · rw [aQ]
      · exact (hf c hcm).1
      · exact O0 (P := fun c => c ≠ s.heap.objs.size) (lt st.z) (lt st.ti) (lt hto) (lt e1) (lt e2) (lt e3) c hcm
  · intro X hP hw hK hc i pins s σ H E I hf st hg
    obtain ⟨xs, ys, zs, h1, h2, h3, hle⟩ := hg
    have D := ap hK I hf st h1 h2 h3
    subst hP hw hK
    obtain ⟨qB, r1, s1, z1⟩ := I.ksq h1
    obtain ⟨rT, r2, s2, z2⟩ := I.ksq h2
    obtain ⟨O2, r3, s3, z3⟩ := I.ksq h3
    obtain ⟨a, b', c', hto⟩ := st.to
    have l1' := r1.length
    have l2' := r2.length
    have l3' := r3.length
    refine zA (I.ok.hd hc) D st.z st.ti hto st.one st.two st.tri s1 s2 s3 (by
      rcases hle with q | q | q
      · exact .inl (by simp; omega)
      · exact .inr (.inl (by simp; omega))
      · exact .inr (.inr (by simp; omega))) fun h' g7 => ⟨rfl, I.sG (t' := s.toks) (ch := [z, TO, i1, i2, i3]) (fun c o hcn e => ?_) fun c hcm => hf c (KA hcm)⟩
    have hcn := O1 hcn
    exact g7 c o hcn.1 hcn.2.1 hcn.2.2.1 hcn.2.2.2.1 hcn.2.2.2.2 e
def MB(K:PySem.W.Frag)(t:TA):TI:=λσ H R=>t σ H λvs H1=>∃a b c k1 k2 k3 xs ys zs,vs=[.ref a,.ref b,.ref c]∧fg K k1 H1 a xs∧fg K k2 H1 b ys∧fg K k3 H1 c zs∧R (OY K k1 k2 k3 a b c) H1
theorem vals3{x y z:V}{us:List Value}(r:Vals [x,y,z] us):∃u v t,us=[u,v,t]∧RelV x u∧RelV y v∧RelV z t:=by
 cases r with
 | cons r1 r =>
  cases r with
  | cons r2 r =>
   cases r with
   | cons r3 r=>cases r;exact⟨_,_,_,rfl,r1,r2,r3⟩
theorem JJ{X:Cx}{elts:List Expr}{x1:Nat}{hZ p pos:Pos}{a b c:Expr}{t:TA}(hg:Gl X "zip")(hm:X.mg "zip"=none)(ha:PA X [a,b,c] t)(he:starEach [a,b,c] X.env=(false,eval a X.env)::starEach [b,c] X.env)(hpl:(backTo pos (starEach [b,c] X.env)).any (·.1)=false) :
  PI X (.Tuple elts x1 hZ) (.Call (.Name "zip" p) [a,b,c] [] pos) (MB X.K t):=by
 intro pins s σ H R I h
 refine wpAny_Call_Name_kw (oi I hg hm PyProof.Rows.boot_zip ?_ (by decide) (by decide))
 refine PyProof.Rows.callWith_type1 (thn (ha pos pins s σ H _ I h) λus s1 ax=>?_) he hpl
 obtain⟨vs,H1,I1,r1,q1⟩:=ax
 obtain⟨c,d,f,k1,k2,k3,xs,ys,zs,rfl,h1,h2,h3,q⟩:=q1
 obtain⟨u1,u2,u3,rfl,ru1,ru2,ru3⟩:=vals3 r1
 cases ru1
 cases ru2
 cases ru3
 obtain⟨qB,_,s1',_⟩:=I1.ksq h1
 obtain⟨rT,_,s2',_⟩:=I1.ksq h2
 obtain⟨O2,_,s3',_⟩:=I1.ksq h3
 refine D5 s1' s2' s3' λh' g1 g2 g3 g4 g5 g6 g7=>wpAny_pyIter_zip g1 ?_
 have I2:Inv X pins σ H1 { s1 with heap:=h' }:=I1.kept (t':=s1.toks) g7
 refine⟨_,_,_,_,H1,rfl,I2,D6 (k1:=k1) (k2:=k2) (k3:=k3) (TI:=s1.heap.objs.size+3) (TO:=s1.heap.objs.size+4) (i1:=s1.heap.objs.size) (i2:=s1.heap.objs.size+1) (i3:=s1.heap.objs.size+2) (l1:=c) (l2:=d) (l3:=f) (λe=>by have e:s1.heap.objs.size+3=s1.heap.objs.size+4:=e;omega) (λe=>by have e:s1.heap.objs.size=s1.heap.objs.size+1:=e;omega) (λe=>by have e:s1.heap.objs.size=s1.heap.objs.size+2:=e;omega) (λe=>by have e:s1.heap.objs.size+1=s1.heap.objs.size+2:=e;omega),⟨g1,g2,⟨_,_,_,g3⟩,g4,g5,g6⟩,λe he=>?_,q⟩
 have:s1.heap.objs.size≤e:=by
  simp only[List.mem_cons,List.not_mem_nil,or_false] at he
  rcases he with rfl|rfl|rfl|rfl|rfl|rfl
  ·exact Nat.le_add_right _ _
  ·exact Nat.le_add_right _ _
  ·exact Nat.le_add_right _ _
  ·exact Nat.le_refl _
  ·exact Nat.le_add_right _ _
  ·exact Nat.le_add_right _ _
 exact I1.yG this (I1.hok.fresh this)
end L2
namespace Fw
open PySem PySem.Spec PyProof.Rows L2
theorem wC:∀{ts us vs:List T}{i:Nat}{t:T},(gD ts us vs)[i]?=some t→∃a b c,ts[i]?=some a∧us[i]?=some b∧vs[i]?=some c∧t = .tup [a,b,c]
 | [],us,vs,i,t,h=>by simp[gD] at h
 | a::ts,[],vs,i,t,h=>by simp[gD] at h
 | a::ts,b::us,[],i,t,h=>by simp[gD] at h
 | a::ts,b::us,c::vs,0,t,h=>by simp[gD] at h;exact⟨a,b,c,rfl,rfl,rfl,h.symm⟩
 | a::ts,b::us,c::vs,i+1,t,h=>by
  obtain⟨c,d,e,h1,h2,h3,h4⟩:=wC (ts:=ts) (us:=us) (vs:=vs) (i:=i) (t:=t) (by simpa [gD] using h)
  exact⟨c,d,e,by simpa using h1,by simpa using h2,by simpa using h3,h4⟩
theorem wD:∀(ts us vs:List T),ts.length≤(gD ts us vs).length∨us.length≤(gD ts us vs).length∨vs.length≤(gD ts us vs).length
 | [],us,vs => .inl (by simp)
 | a::ts,[],vs => .inr (.inl (by simp))
 | a::ts,b::us,[] => .inr (.inr (by simp))
 | a::ts,b::us,c::vs=>by
  have:=wD ts us vs
  simp only[gD,List.length_cons]
  omega
theorem O3{X:Cx}{da db dc:D}{σ:L2.St}{H:Hp}{Q:List V→Hp→Prop}(h:∃F α e μ,Sim X.K F α e μ σ H∧(da e μ).wp (λx μ1=>(db e μ1).wp (λy μ2=>(dc e μ2).wp (λz μ3=>∀v u t H' F' α',Ex F α H F' α' H'→Sim X.K F' α' e μ3 σ H'→fB X.K F' α' v x→fB X.K F' α' u y→fB X.K F' α' t z→Q [v,u,t] H') (fe X F α H e)) (fe X F α H e)) (fe X F α H e)):tDA X [da,db,dc] σ H Q:=by
 obtain⟨F,α,e,μ,S,h⟩:=h
 refine⟨F,α,e,μ,S,?_⟩
 rw[bH]
 cases q:da e μ with
 | err c μ1=>rw[q] at h;exact h
 | bad=>rw[q] at h;exact h
 | ok x μ1 =>
  rw[q] at h
  rw[R.bf,bH]
  have h:(db e μ1).wp _ _:=h
  cases q2:db e μ1 with
  | err c μ2=>rw[q2] at h;exact h
  | bad=>rw[q2] at h;exact h
  | ok y μ2 =>
   rw[q2] at h
   rw[R.bf,bH]
   have h:(dc e μ2).wp _ _:=h
   cases q3:dc e μ2 with
   | err c μ3=>rw[q3] at h;exact h
   | bad=>rw[q3] at h;exact h
   | ok z μ3 =>
    rw[q3] at h
    intro vs H1 F1 α1 x1 S1 o1
    cases o1 with
    | cons o1 o2 =>
     cases o2 with
     | cons o2 o3 =>
      cases o3 with
      | cons o3 o4=>cases o4;exact h _ _ _ H1 F1 α1 x1 S1 o1 o2 o3
theorem xD{X:Cx}{elts:List Expr}{x1:Nat}{hZ p pos:Pos}{a b c:Expr}{da db dc:D}(hm:X.mg "zip"=none)(ha:CE X a da)(hb:CE X b db)(hc:CE X c dc)(hg:Gl X "zip":=by rfl)(hs:starEach [a,b,c] X.env=(false,eval a X.env)::starEach [b,c] X.env:=by rfl)(hs2:starEach [b,c] X.env=(false,eval b X.env)::starEach [c] X.env:=by rfl)(hs3:starEach [c] X.env=(false,eval c X.env)::starEach [] X.env:=by rfl)(hpl:(backTo pos (starEach [b,c] X.env)).any (·.1)=false:=by rfl) :
  CI X (.Tuple elts x1 hZ) (.Call (.Name "zip" p) [a,b,c] [] pos) (rH da db dc) :=
 PI.imp (JJ hg hm (af ha (af hb (af hc az hs3) hs2) hs) hs hpl) λσ H R0 ax=>by
  obtain⟨F,α,e,μ,S,h⟩:=ax
  refine O3 ⟨F,α,e,μ,S,(R.wp_bind h).mono (λx μ1 h=>(R.wp_bind h).mono (λy μ2 h=>(R.wp_bind h).mono (λz μ3 h v u t H1 F1 α1 x1 S1 o1 o2 o3=>?_) λ_ _ h=>h) λ_ _ h=>h) λ_ _ h=>h⟩
  obtain⟨ts,ht,h⟩:=R.bL (R.wp_bind h)
  obtain⟨us,hu,h⟩:=R.bL (R.wp_bind h)
  obtain⟨vs,hv,post⟩:=R.bL (R.wp_bind h)
  obtain⟨t1,hr1,ht⟩:=Option.bind_eq_some_iff.mp ht
  obtain⟨t2,hr2,hu⟩:=Option.bind_eq_some_iff.mp hu
  obtain⟨t3,hr3,hv⟩:=Option.bind_eq_some_iff.mp hv
  obtain⟨a1,vs1,k1,rfl,q1,r1,m1⟩:=fF S1.st.ext (bo S1.st o1 hr1) ht
  obtain⟨a2,vs2,k2,rfl,q2,r2,m2⟩:=fF S1.st.ext (bo S1.st o2 hr2) hu
  obtain⟨a3,vs3,k3,rfl,q3,r3,m3⟩:=fF S1.st.ext (bo S1.st o3 hr3) hv
  refine⟨a1,a2,a3,k1,k2,k3,vs1,vs2,vs3,rfl,q1,q2,q3,post _ H1 F1 α1 x1 S1 λF2 α2 μ4 H2 s2 p2 S2 same=>?_⟩
  obtain⟨e1,e2,e3⟩:=(show rd μ4 x=rd μ3 x∧rd μ4 y=rd μ3 y∧rd μ4 z=rd μ3 z from same)
  obtain⟨b1,ws1,j1,g1,n1,l1,m1'⟩:=fF S2.ext (bo S2 (o1.mono s2 p2) (e1.trans hr1)) ht
  obtain⟨b2,ws2,j2,g2,n2,l2,m2'⟩:=fF S2.ext (bo S2 (o2.mono s2 p2) (e2.trans hr2)) hu
  obtain⟨b3,ws3,j3,g3,n3,l3,m3'⟩:=fF S2.ext (bo S2 (o3.mono s2 p2) (e3.trans hr3)) hv
  cases g1
  cases g2
  cases g3
  have ej1:j1=k1:=by rw[Bool.eq_iff_iff,m1,m1']
  have ej2:j2=k2:=by rw[Bool.eq_iff_iff,m2,m2']
  have ej3:j3=k3:=by rw[Bool.eq_iff_iff,m3,m3']
  subst ej1
  subst ej2
  subst ej3
  refine⟨λi t hi=>?_,?_⟩
  ·obtain⟨c,d,f,hc,hd,hf,rfl⟩:=wC hi
   obtain⟨v1,hv1,rv1⟩:=l1.get hc
   obtain⟨v2,hv2,rv2⟩:=l2.get hd
   obtain⟨v3,hv3,rv3⟩:=l3.get hf
   refine⟨⟨ws1,ws2,ws3,v1,v2,v3,n1,n2,n3,hv1,hv2,hv3⟩,?_⟩
   rintro z H3 ⟨q,z1,z2,z3,rfl,hq,rfl,f1,f2,f3⟩
   have w1:=f1 ws1 n1
   have w2:=f2 ws2 n2
   have w3:=f3 ws3 n3
   rw[hv1] at w1
   rw[hv2] at w2
   rw[hv3] at w3
   cases w1
   cases w2
   cases w3
   have g:bX F2 H2 (upd F2 q (.tup [v1,v2,v3])) (upd H2 q (.tup [v1,v2,v3])):=bX.new hq
   refine⟨_,g,?_⟩
   rw[Rep]
   exact⟨q,_,rfl,SqT.of aV,aI.mono (g.same S2.ext) _ _ (.fM rv1 (.fM rv2 (.fM rv3 .lP)))⟩
  ·refine⟨ws1,ws2,ws3,n1,n2,n3,?_⟩
   have h1:=l1.length
   have h2:=l2.length
   have h3:=l3.length
   have h4:=wD ts us vs
   rw[h1,h2,h3] at h4
   exact h4
end Fw
namespace L2
open PySem PySem.Spec PyProof.Rows
open AutoSeq1 (wpAny_loadPart')
end L2
namespace HT
open PySem PySem.Spec PyProof.Rows L2
end HT
namespace L2
open PySem PySem.Spec PyProof.Rows
end L2
namespace Fw
open PySem PySem.Spec PyProof.Rows L2
end Fw
namespace Fw
open PySem L2 PyProof.Rows
noncomputable abbrev bmV : List Value := [.type "ValueError", .type "Exception", .type "BaseException", .type "object"]
theorem sL{K:PySem.W.Frag}{C:Addr}(h:PySem.W.excIn K C bmV "ValueError.__new__"=true):AZ K C:=⟨⟨_,_,h,by decide⟩⟩
theorem MC{K:PySem.W.Frag}{C:Addr}{v:Value}{b:Bool}(h:PySem.W.mroIn K C v=some b):(PySem.W.clsIn K C).isSome=true:=by
 unfold PySem.W.mroIn at h
 cases q:PySem.W.clsIn K C with
 | none=>rw[q] at h;cases h
 | some cd=>rfl
theorem Cq{K:PySem.W.Frag}{C:Addr}{v:Value}{b:Bool}(h:PySem.W.mroIn K C v=some b):(zo K C).contains v=b:=by
 unfold PySem.W.mroIn PySem.W.clsIn at h
 unfold zo
 split at h
 ·rename_i ho
  rw[ho]
  simp only[Option.bind_some] at h
  split at h
  ·cases h
  ·exact Option.some.inj h
 ·cases h
theorem MD{α:Type}{P:α→Prop}:∀q∈([]:List α),P q:=λ_ h=>nomatch h
theorem sM{α:Type}{P:α→Prop}{a:α}{l:List α}(h:P a)(hl:∀q∈l,P q):∀q∈a::l,P q:=λq hq=>by
 rcases List.mem_cons.mp hq with rfl|hq
 ·exact h
 ·exact hl q hq
theorem GL{R:Str}{b:Bool}{P:Str→Bool→Prop}(h:P R b):∀n b',(if n=R then some b else none)=some b'→P n b':=λn b' e=>by
 by_cases hn:n=R
 ·rw[if_pos hn] at e
  cases e
  rw[hn];exact h
 ·rw[if_neg hn] at e;cases e
theorem GN{X:Cx}{hs:List ExceptHandler}{R:Str}{d:DS}(h:CH1 X hs R d):CH X hs (λn=>if n=R then d else tL):=CH.of λn=>by
 by_cases hn:n=R
 ·rw[if_pos hn,hn];exact h
 ·rw[if_neg hn];exact Jm
noncomputable abbrev ui (X : Cx) : Cx := { X with xe := fun _ _ => False }
section
variable{X:Cx}{pins:List (Addr×Obj)}{σ:L2.St}{H:Hp}{s:Shared}
theorem Ba(I:Inv X pins σ H s):Inv (ui X) pins σ H s :=
 ⟨⟨I.ok.mod,I.ok.kind,I.ok.glob,I.ok.blt,I.ok.above,I.ok.inj,I.ok.has,I.ok.cab,I.ok.hd,I.ok.frames,I.ok.stk,I.ok.exf,I.ok.bs,I.ok.bsz,I.ok.wO,I.ok.Ak,I.ok.oh,I.ok.frf⟩,I.os,I.bare,I.base,I.loc,I.cell,I.free,I.hU,I.pin,I.hok,I.len⟩
theorem i6(ok:X.Ok)(I:Inv (ui X) pins σ H s):Inv X pins σ H s :=
 ⟨ok,I.os,I.bare,I.base,I.loc,I.cell,I.free,I.hU,I.pin,I.hok,I.len⟩
theorem zB{D:Ends}{f:Flow}(ok:X.Ok)(h:SP (ui X) pins D f s):SP X pins D f s:=by
 cases f with
 | next=>obtain⟨σ',H',I,q⟩:=h;exact⟨σ',H',i6 ok I,q⟩
 | brk=>obtain⟨σ',H',I,q⟩:=h;exact⟨σ',H',i6 ok I,q⟩
 | cont=>obtain⟨σ',H',I,q⟩:=h;exact⟨σ',H',i6 ok I,q⟩
 | ret u=>obtain⟨v,σ',H',I,r,q⟩:=h;exact⟨v,σ',H',i6 ok I,r,q⟩
end
theorem D7{X:Cx}{F H:Hp}{α:List Addr}{D:Ends}{d:DS}{e:Slots}{μ:ag}(h:bc X F α H D (kr d e μ)):bc (ui X) F α H D (d e μ):=by
 unfold kr at h
 cases q:d e μ with
 | err c e1 μ1=>rw[q] at h;exact False.elim h
 | nx e1 μ1=>rw[q] at h;exact h
 | rt y μ1=>rw[q] at h;exact h
 | bk e1 μ1=>rw[q] at h;exact h
 | ct e1 μ1=>rw[q] at h;exact h
 | bad=>rw[q] at h;exact h
theorem GO{X:Cx}{body:List Stmt}{d:DS}(h:CSs (ui X) body d):CSs X body (kr d):=by
 intro pins s σ H D I ⟨F,α,e,μ,S,hd⟩
 exact wpAny_mono (h pins s σ H D (Ba I) ⟨F,α,e,μ,S,D7 hd⟩) (λf s' q=>zB I.ok q) λ_ _ z=>z.elim
end Fw
namespace L2
open PySem PySem.Spec PyProof.Rows Fw
end L2
namespace Fw
open PySem PySem.Spec PyProof.Rows L2
end Fw
namespace Fw
open PySem
end Fw
namespace L2
open PySem PySem.Spec PyProof.Rows Fw
end L2
namespace Fw
open PySem PySem.Spec PyProof.Rows L2
end Fw
namespace L2
open PySem PySem.Spec PyProof.Rows Fw
end L2
namespace Fw
open PySem PySem.Spec PyProof.Rows L2
end Fw
namespace L2
open PySem PySem.Spec PyProof.Rows
end L2
namespace Fw
open PySem PySem.Spec PyProof.Rows L2
end Fw
namespace L2
open PySem PySem.Spec PyProof.Rows Fw
end L2
namespace Fw
open PySem PySem.Spec PyProof.Rows L2
end Fw
namespace L2
open PySem PySem.Spec PyProof.Rows Fw
end L2
namespace Fw
open PySem PySem.Spec PyProof.Rows L2
end Fw
namespace Fw
open PySem
end Fw
namespace Fw
open PySem PySem.Spec PyProof.Rows L2
end Fw
namespace L2
open PySem PySem.Spec PyProof.Rows Fw
end L2
namespace Fw
open PySem PySem.Spec PyProof.Rows L2
end Fw
namespace Fw
open PySem
end Fw
namespace Fw
open PySem PySem.Spec PyProof.Rows L2
end Fw
namespace L2
open PySem PySem.Spec PyProof.Rows
noncomputable abbrev eH1 (h : Heap) (l : Addr) : Heap := (h.push (bZ false l)).push { cls := .type "enumerate", data := .fields #[.none, .bool false, .ref h.objs.size, rawInt 1, .none, .none] }
open AutoSeq1 (wpAny_loadPart') in
set_option maxHeartbeats 4000000 in
theorem ME(l:Addr)(its:Array Value)(n:Nat)(dc:Option Addr)(sl:Array (Option Value))(t:Tok) :
  Meets (Builtin.«enumerate.__new__» ⟨[.type "enumerate",.ref l],[("start",.int 1 t)]⟩) (λ_ R s=>s.heap.get? l=some { cls:=.type "tuple",dict:=dc,data:=.seq its n,slots:=sl } ∧
   R (.ok (.ret (.ref (s.heap.push (bZ false l)).objs.size))) { s with heap:=eH1 s.heap l }) :=
 .of_wp λprog w A R s h=>by
  obtain⟨hp,g,d,tk,os⟩:=s
  obtain⟨hl,h⟩:=h
  have q1:=sub_enumerate
  have q2:=AutoSeq1.idx_int
  have hT:Heap.IsTuple (Shared.heap ⟨hp,g,d,tk,os⟩) l its:=⟨_,hl,rfl,n,rfl⟩
  wp_walk using wpAny_loadPart' hl
  refine wpAny_stack_any λst=>wpAny_pure ?_
  split
  ·rename_i c _ _ _ _ _
   cases (c==Value.type "enumerate")
   ·(wp_walk using wpAny_loadPart' hl,wpAny_pyIter_tuple hT);exact⟨_,rfl,h⟩
   ·(wp_walk using wpAny_loadPart' hl,wpAny_pyIter_tuple hT);exact⟨_,rfl,h⟩
  ·(wp_walk using wpAny_loadPart' hl,wpAny_pyIter_tuple hT);exact⟨_,rfl,h⟩
end L2
namespace L2
open PySem PySem.Spec PyProof.Rows
end L2
namespace Fw
open PySem
end Fw
namespace Fw
open PySem PySem.Spec PyProof.Rows L2
end Fw
namespace Fw.Set
open PySem
end Fw.Set
namespace Fw.Set
open PySem PyProof.Rows
end Fw.Set
namespace Fw
open PySem
end Fw
namespace L2
open PySem PySem.Spec PyProof.Rows Fw Fw.Set
end L2
namespace Fw
open PySem PySem.Spec PyProof.Rows L2
end Fw
namespace L2
open PySem PySem.Spec PyProof.Rows
end L2
namespace L2
open PySem PySem.Spec PyProof.Rows Fw
end L2
namespace Fw
open PySem
end Fw
namespace Fw
open PySem L2 PyProof.Rows
end Fw
namespace L2
open PySem PySem.Spec PyProof.Rows Fw
end L2
namespace Fw
open PySem L2 PyProof.Rows
end Fw
namespace L2
open PySem PySem.Spec PyProof.Rows Fw
end L2
namespace Fw
open PySem L2 PyProof.Rows
end Fw
namespace L2
open PySem PySem.Spec PyProof.Rows
section
variable{prog:Program}{w:World}{A:Around}{E:Value→Shared→Prop}{s:Shared}
noncomputable abbrev MF (h : Heap) (z TI TO a : Addr) (f : Bool) : Prop := h.get? z = some { cls := .type "zip", dict := none, data := .fields #[rawInt a, .bool f, .bool false, .ref TI, .ref TO], slots := #[] }
structure ZOA(z TI i1 i2 l1 l2:Addr):Prop where
 TIz:TI≠z
 i1z:i1≠z
 i2z:i2≠z
 i12:i1≠i2
 l1z:l1≠z
 l1i1:l1≠i1
 l2z:l2≠z
 l2i1:l2≠i1
end
section
variable{X:Cx}{pins:List (Addr×Obj)}{σ:L2.St}{H:Hp}{s:Shared}
structure ZO(k1 k2:Bool)(z TI TO i1 i2 l1 l2:Addr)(i:Nat)(H:Hp)(h:Heap):Prop where
 zz:IsZip h z TI TO .none∨∃a f ws,H a=some (.tup ws)∧MF h z TI TO a f
 ti:IsPair h TI (.ref i1) (.ref i2)
 to:∃a b,IsPair h TO a b
 one:KIt k1 h i1 l1 i
 two:KIt k2 h i2 l2 i
theorem ZO.keep{k1 k2:Bool}{z TI TO i1 i2 l1 l2:Addr}{i:Nat}{h h':Heap}(st:ZO k1 k2 z TI TO i1 i2 l1 l2 i H h)(k:∀b∈[z,TI,TO,i1,i2],∀o,h.get? b=some o→h'.get? b=some o):ZO k1 k2 z TI TO i1 i2 l1 l2 i H h':=by
 obtain⟨a,b,hto⟩:=st.to
 refine⟨?_,k TI (.tail _ (.head _)) _ st.ti,⟨a,b,k TO (.tail _ (.tail _ (.head _))) _ hto⟩,st.one.at λo e=>k i1 (.tail _ (.tail _ (.tail _ (.head _)))) o e,st.two.at λo e=>k i2 (.tail _ (.tail _ (.tail _ (.tail _ (.head _))))) o e⟩
 rcases st.zz with hz|⟨c,f,ws,hc,hz⟩
 ·exact .inl (k z (.head _) _ hz)
 ·exact .inr ⟨c,f,ws,hc,k z (.head _) _ hz⟩
theorem ZO.apart{k1 k2:Bool}{z TI TO i1 i2 l1 l2:Addr}{i:Nat}{xs ys:List V}(d1:TI≠TO)(d2:i1≠i2)(I:Inv X pins σ H s)(hf:∀b∈[z,TI,TO,i1,i2],lO X pins H b)(st:ZO k1 k2 z TI TO i1 i2 l1 l2 i H s.heap)(h1:fg X.K k1 H l1 xs)(h2:fg X.K k2 H l2 ys) :
  ZipApart z TI TO i1 i2 l1 l2∧ZOA z TI i1 i2 l1 l2:=by
 obtain⟨a,b,hto⟩:=st.to
 obtain⟨o1,e1,q1⟩:=st.one.ob
 obtain⟨o2,e2,q2⟩:=st.two.ob
 obtain⟨oz,vz,ez,qz,sz⟩:∃(oz:Obj) (vz:Array Value),s.heap.get? z=some oz∧oz.data = .fields vz∧vz.size=5:=by
  rcases st.zz with hz|⟨c,f,ws,hc,hz⟩
  ·exact⟨_,_,hz,rfl,rfl⟩
  ·exact⟨_,_,hz,rfl,rfl⟩
 have neP:∀{c d:Addr}{o:Obj}{u v:Value}{vs:Array Value},IsPair s.heap c u v→s.heap.get? d=some o→o.data = .fields vs→c≠d:=λ{c d o u v vs} hp ho hd e=>by
  subst e
  have hp:s.heap.get? c=some { cls:=.type "tuple",data:=.seq #[u,v] }:=hp
  rw[hp] at ho;cases ho;cases hd
 have neZ:∀{d:Addr}{l:Addr}{o:Obj}{n:Nat},s.heap.get? d=some o→o.data = .fields #[.ref l,.int n 0]→d≠z:=λ{d l o n} ho hd e=>by
  subst e
  rw[ez] at ho;cases ho
  rw[qz] at hd
  have:vz=#[.ref l,.int n 0]:=by injection hd
  rw[this] at sz
  exact absurd sz (by simp)
 have w:∀c∈[z,TI,TO,i1,i2],l1≠c∧l2≠c:=λc hc=>⟨fO I h1 (hf c hc),fO I h2 (hf c hc)⟩
 have D:ZipApart z TI TO i1 i2 l1 l2:={ TIz:=neP st.ti ez qz,TOz:=neP hto ez qz,i1z:=neZ e1 q1,i2z:=neZ e2 q2,TITO:=d1,TIi1:=neP st.ti e1 q1,TIi2:=neP st.ti e2 q2,TOi1:=neP hto e1 q1,TOi2:=neP hto e2 q2,i12:=d2,l1z:=(w z (.head _)).1,l1TO:=(w TO (.tail _ (.tail _ (.head _)))).1,l1i1:=(w i1 (.tail _ (.tail _ (.tail _ (.head _))))).1,l1i2:=(w i2 (.tail _ (.tail _ (.tail _ (.tail _ (.head _)))))).1,l2z:=(w z (.head _)).2,l2TO:=(w TO (.tail _ (.tail _ (.head _)))).2,l2i1:=(w i1 (.tail _ (.tail _ (.tail _ (.head _))))).2,l2i2:=(w i2 (.tail _ (.tail _ (.tail _ (.tail _ (.head _)))))).2 }
 exact⟨D,⟨D.TIz,D.i1z,D.i2z,D.i12,D.l1z,D.l1i1,D.l2z,D.l2i1⟩⟩
end
end L2
namespace Fw
open PySem PySem.Spec PyProof.Rows L2
end Fw
namespace L2
open PySem PySem.Spec PyProof.Rows
end L2
namespace Fw
open PySem PySem.Spec PyProof.Rows L2
end Fw
namespace HT
open PySem PyProof.Rows
section
variable{prog:Program}{w:World}{A:Around}{E:Value→Shared→Prop}{s:Shared}
theorem wF{it t:Addr}{items:Array Value}(hne:t≠it):∀(n i:Nat) (s:Shared) (Q:List Value→Shared→Prop),s.heap.IsListIter it t i→s.heap.IsList t items→i+n≤items.size →
  (∀h',h'.IsListIter it t (i+n)→Heap.SameBut it s.heap h'→Q ((items.toList.drop i).take n) { s with heap:=h' })→wpAny (model prog w) A (draw (.ref it) n) Q E s
 | 0,i,s,Q,hit,_,_,hQ=>by
  show wpAny _ _ (pure []) Q E s
  exact wpAny_pure (by simpa using hQ s.heap hit (Heap.SameBut.refl ..))
 | n+1,i,s,Q,hit,ht,hle,hQ=>by
  have hlt:i<items.size:=by omega
  show wpAny _ _ (pyNext (.ref it)>>=_) Q E s
  refine wpAny_bind (wpAny_pyNext_list_item hit ht (x:=items[i]) (by simp[hlt]) λh₁ hit₁ hs₁=>?_)
  refine wpAny_bind (wpAny_holding (wF hne n (i+1) _ _ hit₁ (ht.extBut hs₁.extBut hne) (by omega) λh₂ hit₂ hs₂=>wpAny_pure ?_))
  have hd:items.toList.drop i=items[i]::items.toList.drop (i+1):=by simp[List.drop_eq_getElem_cons,hlt]
  have:=hQ h₂ (by rw[show i+(n+1)=i+1+n by omega];exact hit₂) (hs₁.trans hs₂)
  rw[hd,List.take_succ_cons] at this
  exact this
theorem rK{h:Heap}{t:Addr}{items:Array Value}(o:Obj)(x:h.IsList t items):(h.push o).IsList t items :=
 let ⟨ol,hol,r⟩:=x;⟨ol,Heap.get?_push_of_some _ hol,r⟩
theorem qD{t:Addr}{items:Array Value}{Q:List Value→Shared→Prop}(hh:A.handled=none)(ht:s.heap.IsList t items)
  (hQ:∀h',Heap.ExtBut s.heap.objs.size s.heap h'→Q items.toList { s with heap:=h' }):wpAny (model prog w) A (unpackItems (.ref t) items.size none) Q E s:=by
 have hlt:t≠s.heap.objs.size:=by obtain⟨o,ho,_⟩:=ht;exact Nat.ne_of_lt (Heap.lt_size ho)
 unfold unpackItems
 refine wpAny_bind ?_
 ·unfold notIterableAtAll
  refine wpAny_bind (wpAny_specialOf ht.typeIs slot_list_iter.lookup ?_)
  refine wpAny_pure ?_
  simp only[Bool.false_eq_true,if_false]
  refine wpAny_bind (wpAny_holding (wpAny_pyIter_list ht ?_))
  refine wpAny_bind (wpAny_holding (wF hlt items.size 0 _ _ ⟨_,Heap.get?_push_size _ rfl,rfl,rfl⟩ (rK _ ht) (by omega) λh₁ hit₁ hs₁=>?_))
  have Ff:List.take items.size (List.drop 0 items.toList)=items.toList:=by
   rw[List.drop_zero];exact List.take_of_length_le (by simp)
  rw[Ff]
  rw[if_neg (by simp)]
  have ht₁:h₁.IsList t items:=(rK _ ht).extBut hs₁.extBut hlt
  refine wpAny_bind (wpAny_holding (wpAny_pyNext_list_end hh hit₁ ht₁ (by simp) λh₂ he₂=>?_))
  simp only[Option.isSome_none,Bool.false_eq_true,if_false]
  refine wpAny_pure (hQ h₂ λb o hb e=>he₂ b o hb (hs₁.extBut b o hb (Heap.get?_push_of_some _ e)))
theorem pT{env:Env}{elts:List Expr}{x1}{pos:Pos}{t:Addr}{items:Array Value}{Q:Unit→Shared→Prop}(hh:A.handled=none)(ht:s.heap.IsList t items)
  (hn:(assignEach elts env).length=items.size) (O4:(assignEach elts env).findIdx? (·.1)=none)
  (h:∀h',Heap.ExtBut s.heap.objs.size s.heap h'→wpAny (model prog w) A (assignInOrder ((assignEach elts env).map (·.2)) items.toList) Q E { s with heap:=h' }) :
  wpAny (model prog w) A (assign (.Tuple elts x1 pos) env (.ref t)) Q E s:=by
 rw[arm_assign_Tuple]
 refine wpAny_bind (wpAny_standAt ?_)
 unfold unpack
 rw[hn,O4]
 exact wpAny_bind (wpAny_holding (qD hh ht h))
end
end HT
namespace L2
open PySem PySem.Spec PyProof.Rows
section
variable{X:Cx}{pos:Pos}
def Q7(K:PySem.W.Frag)(n:Nat)(t:TGs):TG:=λv σ H Q=>∃a xs,v = .ref a∧SqL K H a xs∧xs.length=n∧t xs σ H Q
theorem MG{es:List Expr}{k:Nat}{t:TGs}{n:Nat}(hc:X.calm=true)(h:PGs X es t)
  (hn:(assignEach es X.env).length=n:=by rfl) (hst:(assignEach es X.env).findIdx? (·.1)=none:=by rfl):PG X (.Tuple es k pos) (Q7 X.K n t):=by
 intro pins s σ H v u Q I r hw
 obtain⟨a,xs,e1,hq,hl,hw⟩:=hw
 subst e1
 cases r
 obtain⟨its,rv,pl,hz⟩:=I.list hq
 refine HT.pT (I.ok.hd hc) pl.isList (by simp[hn,← hl,rv.length]) hst λh' hx=>?_
 have I1:Inv X pins σ H { s with heap:=h' }:=I.kept (t':=s.toks) λb o e=>hx b o (Nat.ne_of_lt (Heap.lt_size e)) e
 exact h pins _ σ H xs _ Q I1 (by simpa using rv) hw
end
end L2
namespace Fw
open PySem
def wG(is:List Nat):BD:=λt e=>match t with
 | .lst ts=>if ts.length=is.length then some ((is.zip ts).foldl (λe p=>e.set p.1 (some (.val p.2))) e) else none
 | _=>none
theorem Bb(i j:Nat)(t u:T)(e:Slots):wG [i,j] (.lst [t,u]) e=some ((e.set i (some (.val t))).set j (some (.val u))):=(rfl)
def GP(is:List Nat)(d:D):DS:=λe μ=>(d e μ).toS e λx μ1=>(R.lift ((asV x).bind λt=>wG is t e) μ1).toS e λe' μ1 => .nx e' μ1
theorem GQ(is:List Nat)(d:D)(e:Slots)(μ:ag):GP is d e μ=(d e μ).toS e λx μ1=>(R.lift ((asV x).bind λt=>wG is t e) μ1).toS e λe' μ1 => .nx e' μ1:=(rfl)
end Fw
namespace Fw
open PySem PySem.Spec PyProof.Rows L2
section
variable{X:Cx}{pos:Pos}{a:Expr}{da:D}
theorem GR(i j:Nat){x y:Str}{px py:Pos}{k:Nat}(hN:X.N.Nodup)(hc:X.calm=true)(hi:X.N[i]?=some x:=by rfl)(hj:X.N[j]?=some y:=by rfl)(hx:Loc X.env.scope x:=by first|exact Or.inl rfl|exact Or.inr rfl)
  (hy:Loc X.env.scope y:=by first|exact Or.inl rfl|exact Or.inr rfl)
  (hf:X.fn x=true∨X.env.scope.names.lookup x=some .local:=by first|exact .inl rfl|exact .inr rfl|assumption) (hf':X.fn y=true∨X.env.scope.names.lookup y=some .local:=by first|exact .inl rfl|exact .inr rfl|assumption)
  : CB X (.Tuple [.Name x px,.Name y py] k pos) (wG [i,j]) :=
 PG.imp (MG hc (jk (jK hN hi hx hf) (jk (jK hN hj hy hf') wU))) λv σ H Q ax=>by
  obtain⟨F,α,e,μ,t,e',S,r,hb,q⟩:=ax
  cases t with
  | lst ts =>
   unfold wG at hb
   simp only at hb
   by_cases hl:ts.length=[i,j].length
   ·rw[if_pos hl] at hb
    rw[Rep] at r
    obtain⟨a,vs,rfl,hq,hr⟩:=r
    match ts,vs,hl,hr with
    | [t1,t2],vs,_,hr =>
     rw[aI] at hr
     obtain⟨v1,vs1,rfl,r1,hr⟩:=hr
     rw[aI] at hr
     obtain⟨v2,vs2,rfl,r2,hr⟩:=hr
     rw[aI] at hr
     subst hr
     cases hb
     exact⟨a,_,rfl,aX.seq S.st.ext hq,rfl,v1,[v2],rfl,v2,[],rfl,rfl,q _ ((S.set (x:=.val t1) r1).set (x:=.val t2) r2)⟩
   ·rw[if_neg hl] at hb;cases hb
  | _=>cases hb
theorem JK{tg:Expr}{is:List Nat}(hg:CB X tg (wG is))(he:CE X a da)(hs:swapsWithSole [tg] a pos.line X.env=pure false:=by rfl)(hw:swappedStores [tg] a X.env=pure none:=by rfl)
  (h1:(assignEach [tg] X.env).map (·.2)=[assign tg X.env]:=by rfl):CS X (.Assign [tg] a pos) (GP is da) :=
 PS.imp (Am he hg hs hw h1) λD σ H ⟨F,α,e,μ,S,h⟩ =>
  ⟨F,α,e,μ,S,(bc.toS h).mono (λx μ1 h v H1 F1 α1 x1 S1 o1=>by
   obtain⟨e',hb,hp⟩:=bc.lift h
   obtain⟨t,ht,hb⟩:=Option.bind_eq_some_iff.mp hb
   cases x with
   | val t'=>cases ht;exact⟨F1,α1,e,μ1,t,e',S1,o1,hb,λσ' S'=>hp σ' H1 F1 α1 x1 S'⟩
   | cel _=>cases ht
   | box _=>cases ht) λ_ _ h=>h⟩
end
end Fw
namespace Fw.k73
open PySem Fw
def oE:DS :=
 (aA (aE 3 (ai aL (ae 2) (ae 0)))
 (aA (sIf (ai fEq (ae 3) (dC (.int 0))) tL dA)
 (aA (aE 4 (ai aL (ae 1) (ae 0)))
 (aA (kM (ai fNe (ae 3) (dC (.int 1))) (aA (aE 4 (ai aL (ai aM (dUn tw (ae 4)) (ai d_ (ae 0) (ae 3))) (ae 0)))
 (aE 3 (ai aL (ae 0) (ae 3)))))
 (aS (ae 4))))))
def pU:FN:=fnV 5 oE
def kX:DS :=
 (aS (ai aL (dUn ma (br (me (ae 1) (ae 2)) [none,none] (b4 [0,1]) (dC (.bl true)) (ai aM (ae 0) (ae 1)))) (ae 0)))
def cm:FN:=fnV 3 kX
def kY:DS :=
 (aS (br (h7 (ae 2)) [none,some 0,some 1] (aN 0) (dC (.bl true)) (ai aL (ai aM (ae 2) (ae 0)) (ae 1))))
def iA:FN:=fnV 3 kY
def ie:DS :=
 (aA (aE 4 (aF (ae 1) (ae 3)))
 (aA (sIf (ai fEq (ae 4) (dC (.int 0))) (aS (ae 1)) dA)
 (aS (br (me (ae 1) (ae 2)) [none,none,some 0,some 4] (b4 [0,1]) (dC (.bl true)) (ai aL (ai vf (ae 0) (ai aM (ae 3) (ae 1))) (ae 2))))))
def pV:FN:=fnV 5 ie
def ee:DS :=
 (aA (eL (bx (ae 1)) (aN 2) (sIf (ai fNe (aF (ae 0) (ae 2)) (dC (.int 0))) (aS (ae 2)) dA))
 (aS (dC (.non))))
def jv:FN:=fnV 3 ee
def nE:DS :=
 (aA (aE 3 (dP (dC (.dct []))))
 (aA (aE 4 (dP (eY [])))
 (aA (eL (h7 (ae 1)) (aN 5) (aA (aE 6 (ae 5))
 (aA (eL (kT (ae 3)) (b4 [7,8]) (aE 6 (aB (cal pV) [(ae 0),(ae 6),(ae 8),(ae 7)])))
 (aA (aE 9 (aB (cal jv) [(ae 6),(ae 2)]))
 (sIf (dUn tH (ae 9)) (cu (ae 4) (ae 6)) (aA (aE 10 (aB (cal iA) [(ae 0),(aB (cal pU) [(ae 0),(dC (.int 1)),(aF (ae 6) (ae 9))]),(ae 6)]))
 (aA (eL (h7 (dUn B5 (ae 3))) (aN 7) (rG 3 (ae 7) (aB (cal pV) [(ae 0),(ai t5 (ae 3) (ae 7)),(ae 10),(ae 9)])))
 (rG 3 (ae 9) (ae 10)))))))))
 (aS (lX [(ae 3),(ae 4)])))))
def iB:FN:=fnV 11 nE
def cQ:DS :=
 (aS (br (h7 (ae 1)) [none,some 0,some 2] (aN 0) (dC (.bl true)) (ai aL (aF (ae 0) (ae 2)) (ae 1))))
def bz:FN:=fnV 3 cQ
def kZ:DS :=
 (aA (aE 2 (dP (pH oq [(dC (.int 0))] (ae 0))))
 (aA (dQ 2 (ae 1) (dC (.int 1)))
 (aS (ae 2))))
def nF:FN:=fnD 3 kZ
def xE:FN:=fnV 3 kZ
def oF:DS :=
 (aA (aE 4 (fz (ae 2)))
 (aA (aE 5 (dP (eY [])))
 (aA (eL (bx (ae 1)) (aN 6) (cu (ae 5) (ai bD (ai bD (aB (cal bz) [(ae 0),(ae 2),(ae 6)]) (eY [(ai aL (aF (ae 3) (ae 6)) (ae 0))])) (aB (cal xE) [(ae 1),(ae 6)]))))
 (aA (aE 7 (aB (cal iB) [(ae 0),(ae 5),(ae 4)]))
 (aA (eL (h7 (aF (ae 7) (dC (.int 1)))) (aN 8) (sIf (ai fNe (aF (ae 8) (ae 4)) (dC (.int 0))) (aS (rX [(dC (.str "turn")),(dUn eZ (aB (cal iA) [(ae 0),(aB (cal pU) [(ae 0),(dC (.int 1)),(aF (ae 8) (ae 4))]),(yW (ae 8) (some (ai bD (ae 4) (dC (.int 1)))) none)]))])) dA))
 (aA (aE 9 (dP (pH oq [(dC (.int 0))] (ae 4))))
 (aA (eL (kT (aF (ae 7) (dC (.int 0)))) (b4 [6,10]) (dQ 9 (ae 6) (aF (ae 10) (ae 4))))
 (aS (rX [(dC (.str "sum")),(ae 9)])))))))))
def nG:FN:=fnK 11 oF
def i7:DS :=
 (aA (aE 4 (aB (cal nF) [(ae 2),(ae 3)]))
 (aA (eL (kT (ae 1)) (b4 [5,6]) (dQ 4 (ae 5) (ai aL (dUn tw (aF (ae 6) (ae 3))) (ae 0))))
 (aS (ae 4))))
def c_:FN:=fnV 7 i7
def ef:DS :=
 (aA (aE 3 (fz (ae 2)))
 (aA (aE 4 (aF (aB (cal iB) [(ae 0),(br (bx (ae 1)) [none,some 0,some 2] (aN 0) (dC (.bl true)) (aB (cal bz) [(ae 1),(ae 2),(ae 0)])),(ae 3)]) (dC (.int 0))))
 (aS (br (bx (ae 3)) [none,some 0,some 4,some 3] (aN 0) (ai wo (ae 0) (ae 2)) (aB (cal c_) [(ae 1),(ae 2),(ae 3),(ae 0)])))))
def gK:FN:=fnV 5 ef
def JL:DS :=
 (aS (br (h7 (aF (ae 0) (dC (.int 2)))) [none,some 1,some 0] (aN 0) (dC (.bl true)) (aB (cal cm) [(aF (ae 2) (dC (.int 0))),(aF (ae 0) (dC (.int 1))),(ae 1)])))
def jw:FN:=fnV 2 JL
def D8:DS :=
 (aS (br (Cf (aF (ae 0) (dC (.int 2)))) [none,none,some 1] (b4 [0,1]) (ai fIn (aF (ae 1) (dC (.int 0))) (ae 2)) (ae 0)))
def eg:FN:=fnV 2 D8
def k_:DS :=
 (aS (br (h7 (ae 1)) [none,some 0] (aN 0) (dC (.bl true)) (aF (aF (aF (ae 1) (dC (.int 2))) (ae 0)) (dC (.int 1)))))
def df:FN:=fnV 2 k_
def ig:DS :=
 (aS (dUn eZ (br (bx (ae 0)) [none] (aN 0) (dC (.bl true)) (IA (ai fEq (ae 0) (dC (.int 0))) (dC (.int 1)) (dC (.int 0))))))
def bS:FN:=fnV 1 ig
def jO:DS :=
 (aA (aE 2 (aB (cal nG) [(aF (ae 0) (dC (.int 0))),(aF (ae 0) (dC (.int 1))),(aB (cal df) [(ae 0),(ae 1)]),(aB (cal bS) [(aF (ae 0) (dC (.int 1)))])]))
 (aA (sIf (ai fEq (aF (ae 2) (dC (.int 0))) (dC (.str "sum"))) (aS (rX [(dC (.str "open")),(aF (ae 2) (dC (.int 1)))])) dA)
 (aS (rX [(dC (.str "shut")),(aF (ae 2) (dC (.int 1)))]))))
def dS:FN:=fnK 3 jO
def la:DS :=
 (aS (aB (cal dS) [(ae 0),(aB (cal eg) [(ae 0),(ae 1)])]))
def ky:FN:=fnV 2 la
def Cr:DS :=
 (aS (br (me (ae 1) (ae 2)) [none,none,some 0] (b4 [0,1]) (dC (.bl true)) (ai aL (ai bD (ae 0) (ae 1)) (ae 2))))
def iC:FN:=fnV 3 Cr
def zC:DS :=
 (aS (aB (cal iA) [(ae 0),(ae 2),(ae 1)]))
def gE:FN:=fnV 3 zC
def i8:DS :=
 (aS (ai bD (lX [(ae 0)]) (dUn eZ (ae 1))))
def b5:FN:=fnV 2 i8
def eN:DS:=(aE 3 (aB (cal df) [(ae 0),(aB (cal eg) [(ae 0),(ae 1)])]))
def eO:DS:=(sIf (ai fNe (fz (ae 2)) (fz (ae 3))) (aS (dC (.bl false))) dA)
def gj:DS:=(aE 4 (aF (ae 0) (dC (.int 0))))
def gk:DS:=(aE 5 (aF (ae 0) (dC (.int 1))))
def gm:DS:=(aE 6 (br (bx (ae 5)) [none,some 4,some 2,some 3] (aN 0) (dC (.bl true)) (aB (cal cm) [(ae 1),(ae 2),(aB (cal bz) [(ae 1),(ae 3),(ae 0)])])))
def gp:DS:=(aS (ai fEq (dUn eZ (ae 6)) (aB (cal bS) [(ae 5)])))
def gq:DS:=gp
def gu:DS:=aA gm gq
def gv:DS:=aA gk gu
def gw:DS:=aA gj gv
def gx:DS:=aA eO gw
def gz:DS:=aA eN gx
def jP:DS:=gz
theorem jx:jP=gz:=rfl
theorem hV(e:Slots)(μ:ag):gz e μ=(eN e μ).seq gx:=rfl
theorem hX(e:Slots)(μ:ag):gx e μ=(eO e μ).seq gw:=rfl
theorem lR(e:Slots)(μ:ag):gw e μ=(gj e μ).seq gv:=rfl
theorem lS(e:Slots)(μ:ag):gv e μ=(gk e μ).seq gu:=rfl
theorem lT(e:Slots)(μ:ag):gu e μ=(gm e μ).seq gq:=rfl
theorem lU(e:Slots)(μ:ag):gq e μ=gp e μ:=rfl
def bI:FN:=fnV 7 jP
def i9:DS:=(aE 6 (aF (ae 0) (dC (.int 0))))
def i_:DS:=(sIf (ai fNe (aF (ae 4) (dC (.int 0))) (ae 6)) tL dA)
def lg:DS:=(sIf (kJ (aB (cal bI) [(ae 0),(ae 1),(ae 2)])) tL dA)
def lh:DS:=(aE 7 (pH oq [(dC (.int 0))] (fz (aF (ae 4) (dC (.int 2))))))
def lj:DS:=(eL (rH (ae 2) (ae 3) (ae 5)) (b4 [8,9,10]) (aE 7 (aB (cal iC) [(ae 6),(ae 7),(aB (cal gE) [(ae 6),(aB (cal jw) [(ae 4),(aB (cal b5) [(ae 9),(ae 10)])]),(ae 8)])])))
def ll:DS:=(aS (ae 7))
def lu:DS:=ll
def lx:DS:=aA lj lu
def ly:DS:=aA lh lx
def lA:DS:=aA lg ly
def lB:DS:=aA i_ lA
def lC:DS:=aA i9 lB
def rL:DS:=lC
theorem xF:rL=lC:=rfl
theorem rZ(e:Slots)(μ:ag):lC e μ=(i9 e μ).seq lB:=rfl
theorem r8(e:Slots)(μ:ag):lB e μ=(i_ e μ).seq lA:=rfl
theorem r_(e:Slots)(μ:ag):lA e μ=(lg e μ).seq ly:=rfl
theorem sa(e:Slots)(μ:ag):ly e μ=(lh e μ).seq lx:=rfl
theorem sd(e:Slots)(μ:ag):lx e μ=(lj e μ).seq lu:=rfl
theorem se(e:Slots)(μ:ag):lu e μ=ll e μ:=rfl
def gL:FN:=fnV 11 rL
def gM:DS :=
 (aA (aE 6 (aF (ae 0) (dC (.int 0))))
 (aA (sIf (ai fNe (aF (ae 4) (dC (.int 0))) (ae 6)) (AX "NoFit") dA)
 (aA (sIf (kJ (aB (cal bI) [(ae 0),(ae 1),(ae 2)])) (AX "NoFit") dA)
 (kr (aA (aE 7 (pH oq [(dC (.int 0))] (fz (aF (ae 4) (dC (.int 2))))))
 (aA (eL (rH (ae 2) (ae 3) (ae 5)) (b4 [8,9,10]) (aE 7 (aB (cal iC) [(ae 6),(ae 7),(aB (cal gE) [(ae 6),(aB (cal jw) [(ae 4),(aB (cal b5) [(ae 9),(ae 10)])]),(ae 8)])])))
 (aS (ae 7))))))))
def cz:FN:=fnV 11 gM
def zD:DS :=
 (aA (sIf (ai fLt (ae 1) (fz (ae 0))) (aS (aF (ae 0) (ae 1))) dA)
 (aA (aE 2 (ai bD (ai aM (ae 1) (dC (.int 48271))) (dC (.int 977))))
 (aA (sIf (ai fGt (fz (ae 0)) (dC (.int 0))) (aE 2 (ai bD (ae 2) (ai aM (ai aL (aF (ae 0) (ai aL (ai aM (ae 1) (dC (.int 3))) (fz (ae 0)))) (dC (.int 2147483647))) (dC (.int 40692))))) dA)
 (aS (ai aL (ai aM (ai aL (ai aM (ae 2) (ae 2)) (dC (.int 2147483629))) (dC (.int 69621))) (dC (.int 2147483587)))))))
def bB:FN:=fnV 3 zD
def xG:DS :=
 (aA (aE 2 (ai aL (ai aM (ai bD (ai aL (ae 0) (dC (.int 2147483647))) (dC (.int 1))) (ai bD (dC (.int 48271)) (ai aM (ae 1) (ae 1)))) (dC (.int 2147483629))))
 (aS (ai aL (ai aM (ai aL (ai aM (ae 2) (ai bD (ae 2) (ai aM (dC (.int 977)) (ae 1)))) (dC (.int 2147483587))) (dC (.int 40692))) (dC (.int 2147483399)))))
def ij:FN:=fnV 3 xG
def mC:DS :=
 (aA (aE 4 (dP (eY [])))
 (aA (eL (bx (ae 2)) (aN 5) (sIf (ae 3) (aA (cu (ae 4) (ai aL (ae 0) (ae 1)))
 (aE 0 (ai d_ (ae 0) (ae 1)))) (cu (ae 4) (ai aL (ai d_ (aB (cal ij) [(ae 0),(ae 5)]) (dC (.int 7))) (ae 1)))))
 (aS (ae 4))))
def iW:FN:=fnD 6 mC
def cp:FN:=fnV 6 mC
def xH:DS :=
 (aA (aE 3 (aB (cal bB) [(ae 0),(ae 1)]))
 (aA (aE 4 (ai fEq (ai aL (ae 3) (dC (.int 2))) (dC (.int 0))))
 (aA (aE 5 (ai bD (dC (.int 1)) (ai aL (ai d_ (ae 3) (dC (.int 2))) (dC (.int 4)))))
 (aA (aE 6 (ai aL (ai d_ (ae 3) (dC (.int 8))) (dC (.int 7))))
 (aA (aE 7 (ai bD (dC (.int 1)) (ai aL (ai d_ (ae 3) (dC (.int 56))) (dC (.int 5)))))
 (aA (sIf (ai fEq (ai aL (ai d_ (ae 3) (dC (.int 280))) (dC (.int 8))) (dC (.int 5))) (aA (aE 5 (ai bD (ae 5) (dC (.int 2))))
 (aE 6 (ai bD (ae 6) (dC (.int 5))))) dA)
 (aA (aE 8 (dP (eY [])))
 (aA (eL (bx (ae 6)) (aN 9) (aA (aE 3 (aB (cal bB) [(ae 0),(ai bD (ai bD (ae 1) (dC (.int 1))) (ae 9))]))
 (aA (aE 10 (aB (cal iW) [(ai d_ (ae 3) (dC (.int 100))),(ae 2),(ae 5),(ae 4)]))
 (aA (sIf (ai fEq (ai aL (ai d_ (ae 3) (dC (.int 10))) (dC (.int 5))) (dC (.int 1))) (aA (aE 11 (ai aL (ai d_ (ae 3) (dC (.int 100))) (ae 2)))
 (aA (aE 10 (dP (eY [(dC (.int 1))])))
 (kM (ai fLt (fz (ae 10)) (ae 5)) (cu (ae 10) (ai aL (ai aM (aF (ae 10) (dUn tw (dC (.int 1)))) (ae 11)) (ae 2)))))) dA)
 (cu (ae 8) (lX [(ai aL (ae 3) (ae 7)),(dUn eZ (ae 10))]))))))
 (aS (lX [(ae 2),(ae 5),(dUn eZ (ae 8))]))))))))))
def fP:FN:=fnV 12 xH
def GS:DS :=
 (aS (aF (eY [(dC (.int 2)),(dC (.int 3)),(dC (.int 5)),(dC (.int 7)),(dC (.int 11)),(dC (.int 13)),(dC (.int 2)),(dC (.int 97))]) (ai aL (ae 0) (dC (.int 8)))))
def nH:FN:=fnV 1 GS
def xI:DS :=
 (aS (br (bx (dC (.int 6))) [none,some 0] (aN 0) (ai fEq (ai oA (ai Dm (ae 1) (ae 0)) (dC (.int 1))) (dC (.int 1))) (ae 0)))
def il:FN:=fnV 1 xI
def zE:DS :=
 (aS (br (bx (fz (aF (ae 0) (dC (.int 2))))) [none,some 1,some 0] (aN 0) (ai fIn (aF (aF (aF (ae 2) (dC (.int 2))) (ae 0)) (dC (.int 0))) (ae 1)) (ae 0)))
def ja:FN:=fnV 2 zE
def xJ:DS :=
 (aS (br (h7 (aF (ae 0) (dC (.int 2)))) [none,none,some 0,some 1] (b4 [0,1]) (dC (.bl true)) (ai aL (dUn ma (br (me (ae 1) (ae 3)) [none,none] (b4 [0,1]) (dC (.bl true)) (ai aM (ae 0) (ae 1)))) (aF (ae 2) (dC (.int 0))))))
def b6:FN:=fnV 2 xJ
def xK:DS :=
 (aS (w_ (dIs .int (ae 0)) (w_ (kJ (dIs .bool (ae 0))) (tK fLe fLt (dC (.int 0)) (ae 0) (ae 1)))))
def eW:FN:=fnV 2 xK
def uj:DS :=
 (aA (zj [3,4,5] (ae 0))
 (aA (sIf (dOr (kJ (dIs .list (ae 2))) (ai fNe (fz (ae 2)) (fz (ae 1)))) (aS (dC (.bl false))) dA)
 (aA (sIf (kJ (dUn yV (br (h7 (ae 2)) [none,some 3] (aN 0) (dC (.bl true)) (aB (cal eW) [(ae 0),(ae 1)])))) (aS (dC (.bl false))) dA)
 (aA (eL (bx (ae 4)) (aN 6) (aA (aE 7 (dUn ma (br (me (ae 1) (ae 2)) [none,none,some 6,some 5] (b4 [0,1]) (dC (.bl true)) (ai aM (ae 1) (aF (aF (aF (ae 3) (ae 0)) (dC (.int 1))) (ae 2))))))
 (sIf (ai fNe (ai aL (ae 7) (ae 3)) (dUn DE (ai fEq (ae 6) (dC (.int 0))))) (aS (dC (.bl false))) dA)))
 (aS (dC (.bl true)))))))
def dN:FN:=fnV 8 uj
def nI:DS:=(zj [4,5,6] (ae 0))
def nJ:DS:=(aE 7 (aB (cal gK) [(ae 4),(ae 5),(br (h7 (ae 1)) [none,some 6] (aN 0) (dC (.bl true)) (aF (aF (ae 1) (ae 0)) (dC (.int 1))))]))
def nK:DS:=(sIf (dOr (ai fEq (ae 7) (eY [])) (ai fEq (ai aL (ae 3) (dC (.int 2))) (dC (.int 0)))) (aS (dUn lJ (ae 2))) dA)
def qE:DS:=(aE 8 (aF (ae 7) (ai aL (ai d_ (ae 3) (dC (.int 2))) (fz (ae 7)))))
def qF:DS:=(aS (br (me (ae 2) (ae 8)) [none,none,some 4,some 3] (b4 [0,1]) (dC (.bl true)) (ai aL (ai bD (ae 0) (ai aM (ai d_ (ae 3) (dC (.int 64))) (ae 1))) (ae 2))))
def qG:DS:=qF
def qH:DS:=aA qE qG
def qI:DS:=aA nK qH
def qJ:DS:=aA nJ qI
def qK:DS:=aA nI qJ
def rM:DS:=qK
theorem wH:rM=qK:=rfl
theorem pW(e:Slots)(μ:ag):qK e μ=(nI e μ).seq qJ:=rfl
theorem pX(e:Slots)(μ:ag):qJ e μ=(nJ e μ).seq qI:=rfl
theorem pY(e:Slots)(μ:ag):qI e μ=(nK e μ).seq qH:=rfl
theorem xM(e:Slots)(μ:ag):qH e μ=(qE e μ).seq qG:=rfl
theorem xN(e:Slots)(μ:ag):qG e μ=qF e μ:=rfl
def fG:FN:=fnV 9 rM
def iD:DS:=(sIf (dOr (ai fEq (ae 2) (dC (.int 0))) (ai fEq (ae 0) (eY []))) (aS (ai bD (ae 0) (eY [(dC (.int 0))]))) dA)
def jQ:DS:=(sIf (ai fEq (ae 2) (dC (.int 1))) (aS (yW (ae 0) none (some (dUn tw (dC (.int 1)))))) dA)
def mD:DS:=(aE 4 (ai aL (ae 3) (fz (ae 0))))
def mE:DS:=(aS (ai bD (ai bD (yW (ae 0) none (some (ae 4))) (eY [(ai aL (ai bD (aF (ae 0) (ae 4)) (dC (.int 1))) (ae 1))])) (yW (ae 0) (some (ai bD (ae 4) (dC (.int 1)))) none)))
def mF:DS:=mE
def mG:DS:=aA mD mF
def mH:DS:=aA jQ mG
def mI:DS:=aA iD mH
def nZ:DS:=mI
theorem mJ:nZ=mI:=rfl
theorem jy(e:Slots)(μ:ag):mI e μ=(iD e μ).seq mH:=rfl
theorem mK(e:Slots)(μ:ag):mH e μ=(jQ e μ).seq mG:=rfl
theorem uk(e:Slots)(μ:ag):mG e μ=(mD e μ).seq mF:=rfl
theorem um(e:Slots)(μ:ag):mF e μ=mE e μ:=rfl
def dE:FN:=fnV 5 nZ
def fH:DS:=(sIf (ae 6) (aA (DG (yX (aB cz [(ae 0),(ae 1),(ae 2),(ae 3),(ae 4),(ae 5)])) (λn=>if n="NoFit" then (sAs 7 "NoFit" (aS (w_ (qy (λn=>if n="NoFit" then some true else none) (ae 7)) (kJ (qy (λn=>if n="NoFit" then some false else none) (ae 7)))))) else tL))
 (aS (dC (.bl false)))) dA)
def jb:DS:=(DG (yX (aB cz [(ae 0),(ae 1),(ae 2),(ae 3),(ae 4),(ae 5)])) (λn=>if n="NoFit" then (sAs 7 "NoFit" (aS (qy (λn=>if n="NoFit" then some true else none) (ae 7)))) else tL))
def xO:DS:=(aS (dC (.bl false)))
def pZ:DS:=xO
def lD:DS:=aA jb pZ
def lE:DS:=aA fH lD
def mL:DS:=lE
theorem xP:mL=lE:=rfl
theorem sf(e:Slots)(μ:ag):lE e μ=(fH e μ).seq lD:=rfl
theorem sg(e:Slots)(μ:ag):lD e μ=(jb e μ).seq pZ:=rfl
def cO:FN:=fnV 8 mL
def p0:DS:=(zj [5,6,7] (ae 1))
def uo:DS:=(aE 8 (br (h7 (ae 7)) [none] (aN 0) (dC (.bl true)) (dC (.int 0))))
def uq:DS:=(eL (rH (ae 2) (ae 3) (ae 4)) (b4 [9,10,11]) (aA (aE 12 (aB (cal b6) [(ae 1),(ai bD (eY [(ae 10)]) (ae 11))]))
 (aE 8 (br (me (ae 8) (ae 12)) [none,none,some 5,some 9] (b4 [0,1]) (dC (.bl true)) (ai aL (ai bD (ae 0) (ai aM (ae 3) (ae 1))) (ae 2))))))
def ur:DS:=(aE 13 (dP (eY [])))
def uu:DS:=(eL (bx (ai vf (ae 6) (dC (.int 1)))) (aN 14) (cu (ae 13) (ai aL (dUn ma (br (me (ae 2) (ae 4)) [none,none,some 14] (b4 [0,1]) (dC (.bl true)) (ai aM (ae 0) (aF (ae 1) (ae 2))))) (ae 5))))
def uv:DS:=(aS (eY [(ae 8),(ae 13)]))
def uw:DS:=uv
def ux:DS:=aA uu uw
def uy:DS:=aA ur ux
def uz:DS:=aA uq uy
def uA:DS:=aA uo uz
def uB:DS:=aA p0 uA
def uC:DS:=uB
theorem GU:uC=uB:=rfl
theorem zF(e:Slots)(μ:ag):uB e μ=(p0 e μ).seq uA:=rfl
theorem zG(e:Slots)(μ:ag):uA e μ=(uo e μ).seq uz:=rfl
theorem zH(e:Slots)(μ:ag):uz e μ=(uq e μ).seq uy:=rfl
theorem zI(e:Slots)(μ:ag):uy e μ=(ur e μ).seq ux:=rfl
theorem zJ(e:Slots)(μ:ag):ux e μ=(uu e μ).seq uw:=rfl
theorem zK(e:Slots)(μ:ag):uw e μ=uv e μ:=rfl
def iE:FN:=fnV 15 uC
def qL:DS:=(aE 5 (aF (ae 1) (dC (.int 0))))
def qM:DS:=(aE 6 (aB (cal ja) [(ae 1),(ae 2)]))
def qN:DS:=(aE 7 (aB (cal ky) [(ae 1),(ae 2)]))
def qO:DS:=(aE 8 (ai aL (aB (cal bB) [(ae 0),(dC (.int 4))]) (ai IG (dC (.int 10)) (dC (.int 9)))))
def qP:DS:=(aE 9 (aB (cal b6) [(ae 1),(ae 4)]))
def qQ:DS:=(aE 10 (br (h7 (ae 6)) [none,some 9] (aN 0) (dC (.bl true)) (aF (ae 1) (ae 0))))
def qR:DS:=(aE 11 (dP (eY [])))
def qS:DS:=(eL (bx (fz (ae 6))) (aN 12) (cu (ae 11) (aB (cal cp) [(aB (cal bB) [(ae 0),(ai bD (dC (.int 44)) (ae 12))]),(ae 5),(ai vf (aF (ae 3) (dC (.int 1))) (dC (.int 1))),(ai fEq (ai aL (ai d_ (ae 8) (dC (.int 4))) (dC (.int 2))) (dC (.int 0)))])))
def nL:DS:=(sIf (ai fEq (aF (ae 7) (dC (.int 0))) (dC (.str "shut"))) (aA (aE 13 (aB (cal cp) [(ae 8),(ae 5),(fz (ae 6)),(dC (.bl true))]))
 (aS (aB (cal cO) [(ae 1),(ae 2),(ae 13),(ae 10),(ae 3),(ae 11),(ai fEq (ai aL (ai d_ (ae 8) (dC (.int 8))) (dC (.int 2))) (dC (.int 0)))]))) dA)
def qT:DS:=(sIf (kJ (aB (cal dN) [(ae 1),(ae 6),(aF (ae 7) (dC (.int 1)))])) (aS (dC (.bl false))) dA)
def oG:DS:=(aE 14 (aB (cal fG) [(ae 1),(ae 6),(aF (ae 7) (dC (.int 1))),(ai d_ (ae 8) (dC (.int 16)))]))
def oH:DS:=(aE 15 (eY [(dUn lJ (ae 2)),(dUn lJ (ae 14)),(dUn lJ (ae 10)),(br (h7 (ae 11)) [none] (aN 0) (dC (.bl true)) (dUn lJ (ae 0)))]))
def oI:DS:=(aE 16 (aB (cal gL) [(ae 1),(aF (ae 15) (dC (.int 0))),(aF (ae 15) (dC (.int 1))),(aF (ae 15) (dC (.int 2))),(ae 3),(aF (ae 15) (dC (.int 3)))]))
def oJ:DS:=(GP [17,18] (aB (cal iE) [(ae 1),(ae 3),(ae 14),(ae 10),(ae 11)]))
def oK:DS:=(sIf (dOr (ai fNe (ae 16) (ae 17)) (dOr (ai fNe (ae 15) (eY [(ae 2),(ae 14),(ae 10),(ae 11)])) (kJ (dIs .list (ae 16))))) (aS (dC (.bl false))) dA)
def oM:DS:=(sIf (dOr (ai fNe (ae 17) (aB (cal b6) [(ae 3),(ai bD (eY [(aF (ae 4) (dC (.int 0)))]) (ae 18))])) (kJ (dUn yV (br (h7 (ae 16)) [none,some 5] (aN 0) (dC (.bl true)) (aB (cal eW) [(ae 0),(ae 1)]))))) (aS (dC (.bl false))) dA)
def oN:DS:=(aE 19 (aB (cal dE) [(ae 14),(ae 5),(ai aL (ai d_ (ae 8) (dC (.int 32))) (dC (.int 3))),(ai d_ (ae 8) (dC (.int 96)))]))
def lF:DS:=(sIf (kJ (aB (cal dN) [(ae 1),(ae 6),(ae 19)])) (sIf (kJ (aB (cal cO) [(ae 1),(ae 2),(ae 19),(ae 10),(ae 3),(ae 11),(ai fEq (ai aL (ai d_ (ae 8) (dC (.int 8))) (dC (.int 2))) (dC (.int 0)))])) (aS (dC (.bl false))) dA) dA)
def oO:DS:=(aE 20 (lX [(ai vf (dC (.int 3)) (dUn DE (ai fEq (ae 5) (dC (.int 3))))),(aF (ae 3) (dC (.int 1))),(lX [])]))
def oP:DS:=(aS (aB (cal cO) [(ae 1),(ae 2),(ae 14),(ae 10),(ae 20),(ae 11),(ai fEq (ai aL (ai d_ (ae 8) (dC (.int 8))) (dC (.int 2))) (dC (.int 1)))]))
def oQ:DS:=oP
def oR:DS:=aA oO oQ
def oS:DS:=aA lF oR
def oU:DS:=aA oN oS
def oV:DS:=aA oM oU
def oW:DS:=aA oK oV
def oX:DS:=aA oJ oW
def oY:DS:=aA oI oX
def oZ:DS:=aA oH oY
def o5:DS:=aA oG oZ
def qU:DS:=aA qT o5
def kA:DS:=aA nL qU
def qV:DS:=aA qS kA
def qW:DS:=aA qR qV
def qX:DS:=aA qQ qW
def qY:DS:=aA qP qX
def qZ:DS:=aA qO qY
def q5:DS:=aA qN qZ
def q_:DS:=aA qM q5
def nM:DS:=aA qL q_
def rN:DS:=nM
theorem D9:rN=nM:=rfl
theorem xQ(e:Slots)(μ:ag):nM e μ=(qL e μ).seq q_:=rfl
theorem xR(e:Slots)(μ:ag):q_ e μ=(qM e μ).seq q5:=rfl
theorem xS(e:Slots)(μ:ag):q5 e μ=(qN e μ).seq qZ:=rfl
theorem xT(e:Slots)(μ:ag):qZ e μ=(qO e μ).seq qY:=rfl
theorem xU(e:Slots)(μ:ag):qY e μ=(qP e μ).seq qX:=rfl
theorem xV(e:Slots)(μ:ag):qX e μ=(qQ e μ).seq qW:=rfl
theorem xW(e:Slots)(μ:ag):qW e μ=(qR e μ).seq qV:=rfl
theorem xX(e:Slots)(μ:ag):qV e μ=(qS e μ).seq kA:=rfl
theorem p3(e:Slots)(μ:ag):kA e μ=(nL e μ).seq qU:=rfl
theorem xY(e:Slots)(μ:ag):qU e μ=(qT e μ).seq o5:=rfl
theorem vm(e:Slots)(μ:ag):o5 e μ=(oG e μ).seq oZ:=rfl
theorem vn(e:Slots)(μ:ag):oZ e μ=(oH e μ).seq oY:=rfl
theorem vo(e:Slots)(μ:ag):oY e μ=(oI e μ).seq oX:=rfl
theorem vp(e:Slots)(μ:ag):oX e μ=(oJ e μ).seq oW:=rfl
theorem vq(e:Slots)(μ:ag):oW e μ=(oK e μ).seq oV:=rfl
theorem vt(e:Slots)(μ:ag):oV e μ=(oM e μ).seq oU:=rfl
theorem vv(e:Slots)(μ:ag):oU e μ=(oN e μ).seq oS:=rfl
theorem vw(e:Slots)(μ:ag):oS e μ=(lF e μ).seq oR:=rfl
theorem vx(e:Slots)(μ:ag):oR e μ=(oO e μ).seq oQ:=rfl
theorem vy(e:Slots)(μ:ag):oQ e μ=oP e μ:=rfl
def gN:FN:=fnV 21 rN
def Bc:DS:=(aE 1 (aB (cal nH) [(aB (cal bB) [(ae 0),(dC (.int 0))])]))
def Bd:DS:=(aE 2 (aB (cal fP) [(ae 0),(dC (.int 10)),(ae 1)]))
def Be:DS:=(aE 3 (aB (cal fP) [(ae 0),(dC (.int 25)),(ae 1)]))
def Bf:DS:=(aE 4 (aB (cal cp) [(aB (cal bB) [(ae 0),(dC (.int 1))]),(ae 1),(aF (ae 2) (dC (.int 1))),(dC (.bl true))]))
def Bg:DS:=(aE 5 (aB (cal il) [(aB (cal bB) [(ae 0),(dC (.int 2))])]))
def xZ:DS:=(sIf (ai fGt (ai aL (aB (cal bB) [(ae 0),(dC (.int 3))]) (dC (.int 4))) (dC (.int 0))) (aE 5 (eY [(dC (.int 0)),(dC (.int 1)),(dC (.int 2)),(dC (.int 3)),(dC (.int 4))])) dA)
def Bh:DS:=(aS (aB (cal gN) [(ae 0),(ae 2),(ae 5),(ae 3),(ae 4)]))
def Bi:DS:=Bh
def Bj:DS:=aA xZ Bi
def Bk:DS:=aA Bg Bj
def Bl:DS:=aA Bf Bk
def Bm:DS:=aA Be Bl
def Bn:DS:=aA Bd Bm
def Bo:DS:=aA Bc Bn
def KC:DS:=Bo
theorem MH:KC=Bo:=rfl
theorem D_(e:Slots)(μ:ag):Bo e μ=(Bc e μ).seq Bn:=rfl
theorem Ea(e:Slots)(μ:ag):Bn e μ=(Bd e μ).seq Bm:=rfl
theorem Eb(e:Slots)(μ:ag):Bm e μ=(Be e μ).seq Bl:=rfl
theorem Ed(e:Slots)(μ:ag):Bl e μ=(Bf e μ).seq Bk:=rfl
theorem Ee(e:Slots)(μ:ag):Bk e μ=(Bg e μ).seq Bj:=rfl
theorem Ef(e:Slots)(μ:ag):Bj e μ=(xZ e μ).seq Bi:=rfl
theorem Eg(e:Slots)(μ:ag):Bi e μ=Bh e μ:=rfl
def o7:FN:=fnV 6 KC
end Fw.k73
section
set_option maxHeartbeats 4000000
namespace Fw.k73
open PySem L2 Fw
seal Fw.CE Fw.CT Fw.CA Fw.CS Fw.CSs Fw.CI Fw.CB Fw.CF Fw.CW Fw.CO L2.nV
def top(i:Nat):Stmt:=PySem.Challenge.pw_fewopen_k73_parts_handed_on.main.body.getD i (.Pass ⟨0,0,0,0⟩)
noncomputable abbrev lG : Stmt := top 8
noncomputable abbrev eh : Stmt := top 9
noncomputable abbrev gO : Stmt := top 11
noncomputable abbrev jc : Stmt := top 12
noncomputable abbrev dg : Stmt := top 13
noncomputable abbrev jd : Stmt := top 14
noncomputable abbrev b_ : Stmt := top 15
noncomputable abbrev j7 : Stmt := top 16
noncomputable abbrev mM : Stmt := top 17
noncomputable abbrev dU : Stmt := top 18
noncomputable abbrev b7 : Stmt := top 19
noncomputable abbrev ip : Stmt := top 21
noncomputable abbrev eX : Stmt := top 22
noncomputable abbrev ei : Stmt := top 24
noncomputable abbrev b8 : Stmt := top 25
noncomputable abbrev eG : Stmt := top 26
noncomputable abbrev jR : Stmt := top 27
noncomputable abbrev iq : Stmt := top 29
noncomputable abbrev gP : Stmt := top 30
noncomputable abbrev cR : Stmt := top 32
noncomputable abbrev bh : Stmt := top 33
noncomputable abbrev dj : Stmt := top 34
noncomputable abbrev dm : Stmt := top 36
noncomputable abbrev cS : Stmt := top 37
noncomputable abbrev bJ : Stmt := top 38
noncomputable abbrev dW : Stmt := top 39
noncomputable abbrev iF : Stmt := top 40
noncomputable abbrev cT : Stmt := top 41
noncomputable abbrev dX : Stmt := top 42
noncomputable abbrev cf : Stmt := top 43
noncomputable abbrev cU : Stmt := top 44
noncomputable abbrev bT : Stmt := top 45
noncomputable abbrev dn : Stmt := top 48
noncomputable abbrev dq : Stmt := top 49
noncomputable abbrev cF : Stmt := top 50
noncomputable abbrev dF : Stmt := top 51
noncomputable abbrev cG : Stmt := top 52
noncomputable abbrev n_ : Stmt := top 53
structure Tx(K:PySem.W.Frag)(mg:Str→Option Value):Prop where
 x_:mg "ValueError"=none
 KD:mg "all"=none
 MI:mg "bool"=none
 zL:mg "enumerate"=none
 GV:mg "int"=none
 eP:mg "isinstance"=none
 iG:mg "len"=none
 mO:mg "list"=none
 ff:mg "range"=none
 Cs:mg "sum"=none
 nN:mg "tuple"=none
 mP:mg "zip"=none
structure Ec(K:PySem.W.Frag)(mg:Str→Option Value)(au ah aj av aw ar:Addr):Prop where
 nO:mg "NoFit"=some (.ref au)
 p4:PySem.W.nsIn K mainGlobals "NoFit"=some (some (.ref au))
 p5:PySem.W.excIn K au bmV "ValueError.__new__"=true
 ya:Jo K au
 zM:mg "OpenError"=some (.ref ah)
 KG:PySem.W.nsIn K mainGlobals "OpenError"=some (some (.ref ah))
 zN:PySem.W.excIn K ah bmV "ValueError.__new__"=true
 Bp:mg "NoNumber"=some (.ref aj)
 MJ:PySem.W.nsIn K mainGlobals "NoNumber"=some (some (.ref aj))
 GW:mg "NoText"=some (.ref av)
 O5:PySem.W.nsIn K mainGlobals "NoText"=some (some (.ref av))
 GX:mg "TooFew"=some (.ref aw)
 O6:PySem.W.nsIn K mainGlobals "TooFew"=some (some (.ref aw))
 Eh:mg "TooMany"=some (.ref ar)
 Nw:PySem.W.nsIn K mainGlobals "TooMany"=some (some (.ref ar))
 s0:(zo K au).contains (.ref ah)=true
 s1:PySem.W.kitOne K (.ref au) (.ref au)=some true
 s2:PySem.W.kitAny K (.ref au) [.ref aj,.ref av,.ref aw,.ref ar]=some false
 s3:(zo K au).contains (.ref au)=true
 s4:PySem.W.kitOne K (.ref au) (.type "ValueError")=some true
noncomputable abbrev n0 : List Str := ["left", "right"]
noncomputable abbrev n1 : List Str := ["p", "one", "other"]
noncomputable abbrev n2 : List Str := ["entry", "p", "number"]
noncomputable abbrev n3 : List Str := ["p", "number", "row"]
noncomputable abbrev n4 : List Str := ["entry", "other", "p", "number"]
noncomputable abbrev n5 : List Str := ["p", "row", "lead", "place", "number"]
noncomputable abbrev n6 : List Str := ["line", "p", "place"]
noncomputable abbrev n7 : List Str := ["p", "lines", "place"]
noncomputable abbrev n8 : List Str := ["place", "p", "lines"]
noncomputable abbrev n9 : List Str := ["p", "width", "lines", "many", "leads"]
noncomputable abbrev n10 : List Str := ["free", "p", "leads", "many"]
noncomputable abbrev n11 : List Str := ["row", "filling", "table"]
noncomputable abbrev n12 : List Str := ["table", "filling"]
noncomputable abbrev n13 : List Str := ["number", "row", "hands"]
noncomputable abbrev n14 : List Str := ["table", "hands"]
noncomputable abbrev n15 : List Str := ["number", "table"]
noncomputable abbrev n16 : List Str := ["table", "numbers"]
noncomputable abbrev n17 : List Str := ["place"]
noncomputable abbrev n18 : List Str := ["wide"]
noncomputable abbrev n19 : List Str := ["left", "right", "p"]
noncomputable abbrev n20 : List Str := ["place", "p", "multipliers", "lines"]
noncomputable abbrev n21 : List Str := ["table", "hands", "multipliers", "lines", "p", "wide", "told"]
noncomputable abbrev n22 : List Str := ["_law_hand", "_law_cell_here"]
noncomputable abbrev n23 : List Str := ["_law_cell_here"]
noncomputable abbrev n24 : List Str := ["_law_k", "_law_hands_here", "_law_table_here"]
noncomputable abbrev n25 : List Str := ["_law_table_here", "_law_hands_here"]
noncomputable abbrev n26 : List Str := ["_law_a", "_law_b"]
noncomputable abbrev n27 : List Str := ["_law_hand", "_law_line", "_law_table_here", "_law_filling"]
noncomputable abbrev n28 : List Str := ["_law_table_here", "_law_filling"]
noncomputable abbrev n29 : List Str := ["_law_number", "_law_p_here"]
noncomputable abbrev n30 : List Str := ["_law_table_here", "_law_numbers_here", "_law_multipliers", "_law_p_here", "_law_wide", "_law_rows_here", "_law_place", "_law_total"]
noncomputable abbrev n31 : List Str := ["_law_k", "_law_times", "_law_place", "_law_rows_here"]
noncomputable abbrev n32 : List Str := ["_law_k", "_law_rows_here"]
noncomputable abbrev n33 : List Str := ["_law_table_here", "_law_numbers_here", "_law_multipliers", "_law_cell_here", "_law_p_here", "_law_wide", "_law_rows_here", "_law_free", "_law_some"]
noncomputable abbrev n34 : List Str := ["_law_a", "_law_b", "_law_p_here", "_law_cell_here"]
noncomputable abbrev n35 : List Str := ["_law_row"]
noncomputable abbrev n36 : List Str := ["_law_table_here", "_law_other", "_law_multipliers", "_law_some", "_law_chances", "_law_p_here", "_law_wide", "_law_rows_here", "_law_due_here", "_law_times", "_law_part", "_law_chance", "_law_given_here", "_law_filling", "_law_place"]
noncomputable abbrev n37 : List Str := ["_law_a", "_law_b", "_law_p_here", "_law_times"]
noncomputable abbrev n38 : List Str := ["_law_times", "_law_chance", "_law_place"]
noncomputable abbrev n39 : List Str := ["_law_k", "_law_given_here"]
noncomputable abbrev n40 : List Str := ["_law_script", "_law_table_here", "_law_hands_here", "_law_other", "_law_filling", "_law_p_here", "_law_numbers_here", "_law_found", "_law_cell_here", "_law_given_here", "_law_some", "_law_chances", "_law_k", "_law_plain", "_law_multipliers", "_law_handed", "_law_told_now", "_law_due_here", "_law_behind", "_law_bad", "_law_odd"]
noncomputable abbrev n41 : List Str := ["_law_chance"]
noncomputable abbrev n42 : List Str := ["p", "one", "other", "rest", "told"]
noncomputable abbrev n43 : List Str := ["p", "row", "lead", "place"]
noncomputable abbrev n44 : List Str := ["row", "many", "place"]
noncomputable abbrev n45 : List Str := ["row", "many"]
noncomputable abbrev n46 : List Str := ["p", "rows", "many", "leads", "noughts", "row", "rest", "place", "lead", "found", "fresh"]
noncomputable abbrev n47 : List Str := ["p", "rows", "many"]
noncomputable abbrev n48 : List Str := ["width", "place", "row"]
noncomputable abbrev n49 : List Str := ["width", "place"]
noncomputable abbrev n50 : List Str := ["p", "width", "lines", "wished", "many", "rows", "place", "parted", "row", "multipliers", "lead"]
noncomputable abbrev n51 : List Str := ["p", "width", "lines", "wished"]
noncomputable abbrev n52 : List Str := ["p", "leads", "many", "free", "multipliers", "place", "lead"]
noncomputable abbrev n53 : List Str := ["p", "leads", "many", "free"]
noncomputable abbrev n54 : List Str := ["p", "width", "lines"]
noncomputable abbrev n55 : List Str := ["table", "numbers", "found"]
noncomputable abbrev n56 : List Str := ["p", "one", "number"]
noncomputable abbrev n57 : List Str := ["number", "chances"]
noncomputable abbrev n58 : List Str := ["table", "hands", "multipliers"]
noncomputable abbrev n59 : List Str := ["table", "hands", "multipliers", "some", "other", "chances", "p", "total", "multiplier", "part", "own"]
noncomputable abbrev n60 : List Str := ["table", "hands", "multipliers", "some", "other", "chances"]
noncomputable abbrev n61 : List Str := ["_law_script", "_law_k", "_law_number"]
noncomputable abbrev n62 : List Str := ["_law_script", "_law_k"]
noncomputable abbrev n63 : List Str := ["_law_cell_here", "_law_k", "_law_number"]
noncomputable abbrev n64 : List Str := ["_law_cell_here", "_law_k"]
noncomputable abbrev n65 : List Str := ["_law_cell_here", "_law_p_here", "_law_count", "_law_by_digits", "_law_found", "_law_k"]
noncomputable abbrev n66 : List Str := ["_law_cell_here", "_law_p_here", "_law_count", "_law_by_digits"]
noncomputable abbrev n67 : List Str := ["_law_script", "_law_at", "_law_p_here", "_law_cell_here", "_law_by_digits", "_law_wide", "_law_count", "_law_many", "_law_rows_here", "_law_k", "_law_line", "_law_x"]
noncomputable abbrev n68 : List Str := ["_law_script", "_law_at", "_law_p_here"]
noncomputable abbrev n69 : List Str := ["_law_table_here", "_law_numbers_here", "_law_multipliers"]
noncomputable abbrev n70 : List Str := ["_law_table_here", "_law_numbers_here", "_law_multipliers", "_law_cell_here"]
noncomputable abbrev n71 : List Str := ["_law_multipliers", "_law_p_here", "_law_way", "_law_cell_here", "_law_at"]
noncomputable abbrev n72 : List Str := ["_law_multipliers", "_law_p_here", "_law_way", "_law_cell_here"]
noncomputable abbrev n73 : List Str := ["_law_table_here", "_law_hands_here", "_law_multipliers", "_law_some", "_law_other", "_law_chances", "_law_base", "e"]
noncomputable abbrev n74 : List Str := ["_law_table_here", "_law_hands_here", "_law_multipliers", "_law_some", "_law_other", "_law_chances", "_law_base"]
noncomputable abbrev n75 : List Str := ["_law_table_here", "_law_other", "_law_multipliers", "_law_some", "_law_chances"]
noncomputable abbrev n76 : List Str := ["_law_script", "_law_table_here", "_law_hands_here", "_law_other", "_law_filling"]
noncomputable abbrev n77 : List Str := ["_law_script", "_law_p_here", "_law_table_here", "_law_other", "_law_filling", "_law_hands_here"]
noncomputable abbrev n78 : List Str := ["_law_script"]
section
variable{P:Program}{w:World}{K:PySem.W.Frag}{mg:Str→Option Value}{base:Heap}
theorem p6:aT n42 n1 (ao lG):=⟨rfl,rfl,rfl,by decide +kernel,rfl,by decide +kernel,by decide +kernel⟩
theorem GY{mQ:Addr}{mR:FuncData}(T:Tx K mg){au ah aj av aw ar:Addr}(Y:Ec K mg au ah aj av aw ar)(lH:Gf K mg "over" lG n1 mQ mR) :
  aP P w K mg base CX0 1 mQ mR n1 (spD K pU 3) :=
 bY .V lH.F p6 λcdv A outer s H E hr=>(ak (aD 3 p6.nd (aW (aa 2) (aa 0)))
 (ak (dD (ku hr (aa 3) aq) (ay AR) bF)
 (ak (aD 4 p6.nd (aW (aa 1) (aa 0)))
 (ak (zb PassesOwn.never (my hr (aa 3) aq) (ak (aD 4 p6.nd (aW (eF (xq (aa 4)) (ed (aa 0) (aa 3))) (aa 0)))
 (ay (aD 3 p6.nd (aW (aa 0) (aa 3))))))
 (ay (aK (aa 4)))))))
theorem zO:aT n1 n1 (ao eh):=⟨rfl,rfl,rfl,by decide +kernel,rfl,by decide +kernel,by decide +kernel⟩
theorem yb{fk:Addr}{fm:FuncData}(T:Tx K mg){au ah aj av aw ar:Addr}(Y:Ec K mg au ah aj av aw ar)(eQ:Gf K mg "comes_to" eh n1 fk fm) :
  aP P w K mg base CX0 1 fk fm n1 (spD K cm 3) :=
 bY .V eQ.F zO λcdv A outer s H E hr=>(ay (aK (aW (xx hr T.Cs (CF.ce (cw (N':=n0) rfl (aG (ao eh) rfl n1 rfl (by decide +kernel)) rfl (cZ rfl rfl) (mz T.mP (aa 1) (aa 2)) (λ_ _ _ _ _=>(fD 0 1 (show n0.Nodup by decide +kernel) rfl)) (λ_ _ _ _ _=>bp) (λ_ _ _ _ _=>(eF (aa 0) (aa 1)))))) (aa 0))))
theorem GZ:aT n3 n3 (ao gO):=⟨rfl,rfl,rfl,by decide +kernel,rfl,by decide +kernel,by decide +kernel⟩
theorem Ei{gQ:Addr}{gR:FuncData}(T:Tx K mg){au ah aj av aw ar:Addr}(Y:Ec K mg au ah aj av aw ar)(fI:Gf K mg "times" gO n3 gQ gR) :
  aP P w K mg base CX0 1 gQ gR n3 (spD K iA 3) :=
 bY .V fI.F GZ λcdv A outer s H E hr=>(ay (aK (CF.ce (cw (N':=n2) rfl (aG (ao gO) rfl n3 rfl (by decide +kernel)) rfl (bA rfl) (gI (aa 2)) (λ_ _ _ _ _=>(bM 0 (show n2.Nodup by decide +kernel))) (λ_ _ _ _ _=>bp) (λ_ _ _ _ _=>(aW (eF (aa 2) (aa 0)) (aa 1)))))))
theorem zP:aT n5 n43 (ao jc):=⟨rfl,rfl,rfl,by decide +kernel,rfl,by decide +kernel,by decide +kernel⟩
theorem Ej{p7:Addr}{p8:FuncData}(T:Tx K mg){au ah aj av aw ar:Addr}(Y:Ec K mg au ah aj av aw ar)(jS:Gf K mg "freed" jc n43 p7 p8) :
  aP P w K mg base CX0 1 p7 p8 n43 (spD K pV 4) :=
 bY .V jS.F zP λcdv A outer s H E hr=>(ak (aD 4 zP.nd (aH (aa 1) (aa 3)))
 (ak (dD (ku hr (aa 4) aq) (ay (aK (aa 1))) bF)
 (ay (aK (CF.ce (cw (N':=n4) rfl (aG (ao jc) rfl n5 rfl (by decide +kernel)) rfl (cZ rfl rfl) (mz T.mP (aa 1) (aa 2)) (λ_ _ _ _ _=>(fD 0 1 (show n4.Nodup by decide +kernel) rfl)) (λ_ _ _ _ _=>bp) (λ_ _ _ _ _=>(aW (xp (aa 0) (eF (aa 3) (aa 1))) (aa 2)))))))))
theorem mS:aT n44 n45 (ao dg):=⟨rfl,rfl,rfl,by decide +kernel,rfl,by decide +kernel,by decide +kernel⟩
theorem sh{fQ:Addr}{fR:FuncData}(T:Tx K mg){au ah aj av aw ar:Addr}(Y:Ec K mg au ah aj av aw ar)(fS:Gf K mg "first_place" dg n45 fQ fR) :
  aP P w K mg base CX0 1 fQ fR n45 (spD K jv 2) :=
 bY .V fS.F mS λcdv A outer s H E hr=>(ak (fi PassesOwn.never rfl (cM T.ff (aa 1)) (bM 2 mS.nd) (ay (dD (my hr (aH (aa 0) (aa 2)) aq) (ay (aK (aa 2))) bF)))
 (ay (aK FJ)))
theorem fT:aT n46 n47 (ao jd):=⟨rfl,rfl,rfl,by decide +kernel,rfl,by decide +kernel,by decide +kernel⟩
theorem Ek{jT:Addr}{jU:FuncData}(T:Tx K mg){au ah aj av aw ar:Addr}(Y:Ec K mg au ah aj av aw ar)(je:Gf K mg "eased" jd n47 jT jU)
  {p7:Addr}{p8:FuncData} (jS:Gf K mg "freed" jc n43 p7 p8)
  (zQ:aP P w K mg base CX0 1 p7 p8 n43 (spD K pV 4))
  {fQ:Addr}{fR:FuncData} (fS:Gf K mg "first_place" dg n45 fQ fR)
  (uD:aP P w K mg base CX0 1 fQ fR n45 (spD K jv 2))
  {mQ:Addr}{mR:FuncData} (lH:Gf K mg "over" lG n1 mQ mR)
  (yc:aP P w K mg base CX0 1 mQ mR n1 (spD K pU 3))
  {gQ:Addr}{gR:FuncData} (fI:Gf K mg "times" gO n3 gQ gR)
  (mT:aP P w K mg base CX0 1 gQ gR n3 (spD K iA 3)) :
  aP P w K mg base CX0 2 jT jU n47 (spD K iB 3) :=
 bY .V je.F fT λcdv A outer s H E hr=>(ak (aD 3 fT.nd (CF.cell Ms))
 (ak (aD 4 fT.nd (CF.cell (eD az)))
 (ak (fi PassesOwn.never rfl (gI (aa 1)) (bM 5 fT.nd) (ak (aD 6 fT.nd (aa 5))
 (ak (fi PassesOwn.never rfl (ug (aa 3)) (fD 7 8 fT.nd rfl) (ay (aD 6 fT.nd (aC zQ (hr.mono (by decide)) jS.m jS.F.kp jS.b (af (aa 0) (af (aa 6) (af (aa 8) (af (aa 7) az))))))))
 (ak (aD 9 fT.nd (aC uD (hr.mono (by decide)) fS.m fS.F.kp fS.b (af (aa 6) (af (aa 2) az))))
 (ay (dD (Mv (aa 9)) (ay (eV (aa 4) (aa 6))) (ak (aD 10 fT.nd (aC mT (hr.mono (by decide)) fI.m fI.F.kp fI.b (af (aa 0) (af (aC yc (hr.mono (by decide)) lH.m lH.F.kp lH.b (af (aa 0) (af aq (af (aH (aa 6) (aa 9)) az)))) (af (aa 6) az)))))
 (ak (fi PassesOwn.never rfl (gI (CF.ce (GD T.mO (aa 3)))) (bM 7 fT.nd) (ay (Cn hr 3 (aa 7) (aC zQ (hr.mono (by decide)) jS.m jS.F.kp jS.b (af (aa 0) (af (JE hr (aa 3) (aa 7)) (af (aa 10) (af (aa 9) az))))))))
 (ay (Cn hr 3 (aa 9) (aa 10)))))))))))
 (ay (aK (qv (af (aa 3) (af (aa 4) az))))))))
theorem vA:aT n7 n7 (ao b_):=⟨rfl,rfl,rfl,by decide +kernel,rfl,by decide +kernel,by decide +kernel⟩
theorem uE{cg:Addr}{cj:FuncData}(T:Tx K mg){au ah aj av aw ar:Addr}(Y:Ec K mg au ah aj av aw ar)(bN:Gf K mg "numbers_at" b_ n7 cg cj) :
  aP P w K mg base CX0 1 cg cj n7 (spD K bz 3) :=
 bY .V bN.F vA λcdv A outer s H E hr=>(ay (aK (CF.ce (cw (N':=n6) rfl (aG (ao b_) rfl n7 rfl (by decide +kernel)) rfl (bA rfl) (gI (aa 1)) (λ_ _ _ _ _=>(bM 0 (show n6.Nodup by decide +kernel))) (λ_ _ _ _ _=>bp) (λ_ _ _ _ _=>(aW (aH (aa 0) (aa 2)) (aa 1)))))))
theorem sN:aT n48 n49 (ao j7):=⟨rfl,rfl,rfl,by decide +kernel,rfl,by decide +kernel,by decide +kernel⟩
theorem G0{jz:Addr}{jA:FuncData}(T:Tx K mg){au ah aj av aw ar:Addr}(Y:Ec K mg au ah aj av aw ar)(jB:Gf K mg "unit" j7 n49 jz jA) :
  aP P w K mg base CX0 1 jz jA n49 (spD K nF 2) :=
 bY .D jB.F sN λcdv A outer s H E hr=>(ak (aD 2 sN.nd (CF.cell (ud (af aq az) (aa 0))))
 (ak (kW 2 (aa 1) aq)
 (ay (aK (aa 2)))))
theorem G1{jz:Addr}{jA:FuncData}(T:Tx K mg){au ah aj av aw ar:Addr}(Y:Ec K mg au ah aj av aw ar)(jB:Gf K mg "unit" j7 n49 jz jA) :
  aP P w K mg base CX0 1 jz jA n49 (spD K xE 2) :=
 bY .V jB.F sN λcdv A outer s H E hr=>(ak (aD 2 sN.nd (CF.cell (ud (af aq az) (aa 0))))
 (ak (kW 2 (aa 1) aq)
 (ay (aK (aa 2)))))
theorem jV:aT n50 n51 (ao mM):=⟨rfl,rfl,rfl,by decide +kernel,rfl,by decide +kernel,by decide +kernel⟩
theorem G2{uF:Addr}{uG:FuncData}(T:Tx K mg){au ah aj av aw ar:Addr}(Y:Ec K mg au ah aj av aw ar)(uH:Gf K mg "held" mM n51 uF uG)
  {cg:Addr}{cj:FuncData} (bN:Gf K mg "numbers_at" b_ n7 cg cj)
  (fU:aP P w K mg base CX0 1 cg cj n7 (spD K bz 3))
  {jz:Addr}{jA:FuncData} (jB:Gf K mg "unit" j7 n49 jz jA)
  (JM:aP P w K mg base CX0 1 jz jA n49 (spD K xE 2))
  {jT:Addr}{jU:FuncData} (je:Gf K mg "eased" jd n47 jT jU)
  (uI:aP P w K mg base CX0 2 jT jU n47 (spD K iB 3))
  {mQ:Addr}{mR:FuncData} (lH:Gf K mg "over" lG n1 mQ mR)
  (yc:aP P w K mg base CX0 1 mQ mR n1 (spD K pU 3))
  {gQ:Addr}{gR:FuncData} (fI:Gf K mg "times" gO n3 gQ gR)
  (mT:aP P w K mg base CX0 1 gQ gR n3 (spD K iA 3)) :
  aP P w K mg base CX0 3 uF uG n51 (spD K nG 4) :=
 bY .K uH.F jV λcdv A outer s H E hr=>(ak (aD 4 jV.nd (fj T.iG (aa 2)))
 (ak (aD 5 jV.nd (CF.cell (eD az)))
 (ak (fi PassesOwn.never rfl (cM T.ff (aa 1)) (bM 6 jV.nd) (ay (eV (aa 5) (cE (cE (aC fU (hr.mono (by decide)) bN.m bN.F.kp bN.b (af (aa 0) (af (aa 2) (af (aa 6) az)))) (CF.ce (eD (af (aW (aH (aa 3) (aa 6)) (aa 0)) az)))) (aC JM (hr.mono (by decide)) jB.m jB.F.kp jB.b (af (aa 1) (af (aa 6) az)))))))
 (ak (aD 7 jV.nd (aC uI (hr.mono (by decide)) je.m je.F.kp je.b (af (aa 0) (af (aa 5) (af (aa 4) az)))))
 (ak (fi PassesOwn.never rfl (gI (aH (aa 7) aq)) (bM 8 jV.nd) (ay (dD (my hr (aH (aa 8) (aa 4)) aq) (ay (aK (xk (af qu (af (kx T.nN (aC mT (hr.mono (by decide)) fI.m fI.F.kp fI.b (af (aa 0) (af (aC yc (hr.mono (by decide)) lH.m lH.F.kp lH.b (af (aa 0) (af aq (af (aH (aa 8) (aa 4)) az)))) (af (xA (aa 8) (sJ (cE (aa 4) aq)) sI) az))))) az))))) bF)))
 (ak (aD 9 jV.nd (CF.cell (ud (af aq az) (aa 4))))
 (ak (fi PassesOwn.never rfl (ug (aH (aa 7) aq)) (fD 6 10 jV.nd rfl) (ay (kW 9 (aa 6) (aH (aa 10) (aa 4)))))
 (ay (aK (xk (af qu (af (aa 9) az))))))))))))
theorem j8:aT n52 n53 (ao dU):=⟨rfl,rfl,rfl,by decide +kernel,rfl,by decide +kernel,by decide +kernel⟩
theorem uJ{gS:Addr}{gT:FuncData}(T:Tx K mg){au ah aj av aw ar:Addr}(Y:Ec K mg au ah aj av aw ar)(gU:Gf K mg "nought_sum" dU n53 gS gT)
  {jz:Addr}{jA:FuncData} (jB:Gf K mg "unit" j7 n49 jz jA)
  (JN:aP P w K mg base CX0 1 jz jA n49 (spD K nF 2)) :
  aP P w K mg base CX0 2 gS gT n53 (spD K c_ 4) :=
 bY .V gU.F j8 λcdv A outer s H E hr=>(ak (aD 4 j8.nd (aC JN (hr.mono (by decide)) jB.m jB.F.kp jB.b (af (aa 2) (af (aa 3) az))))
 (ak (fi PassesOwn.never rfl (ug (aa 1)) (fD 5 6 j8.nd rfl) (ay (kW 4 (aa 5) (aW (xq (aH (aa 6) (aa 3))) (aa 0)))))
 (ay (aK (aa 4)))))
theorem jC:aT n9 n54 (ao b7):=⟨rfl,rfl,rfl,by decide +kernel,rfl,by decide +kernel,by decide +kernel⟩
theorem si{fV:Addr}{fW:FuncData}(T:Tx K mg){au ah aj av aw ar:Addr}(Y:Ec K mg au ah aj av aw ar)(fX:Gf K mg "nought_sums" b7 n54 fV fW)
  {cg:Addr}{cj:FuncData} (bN:Gf K mg "numbers_at" b_ n7 cg cj)
  (fU:aP P w K mg base CX0 1 cg cj n7 (spD K bz 3))
  {jT:Addr}{jU:FuncData} (je:Gf K mg "eased" jd n47 jT jU)
  (uI:aP P w K mg base CX0 2 jT jU n47 (spD K iB 3))
  {gS:Addr}{gT:FuncData} (gU:Gf K mg "nought_sum" dU n53 gS gT)
  (vB:aP P w K mg base CX0 2 gS gT n53 (spD K c_ 4)) :
  aP P w K mg base CX0 3 fV fW n54 (spD K gK 3) :=
 bY .V fX.F jC λcdv A outer s H E hr=>(ak (aD 3 jC.nd (fj T.iG (aa 2)))
 (ak (aD 4 jC.nd (aH (aC uI (hr.mono (by decide)) je.m je.F.kp je.b (af (aa 0) (af (CF.ce (cw (N':=n8) rfl (aG (ao b7) rfl n9 rfl (by decide +kernel)) rfl (bA rfl) (cM T.ff (aa 1)) (λ_ _ _ _ _=>(bM 0 (show n8.Nodup by decide +kernel))) (λ_ _ _ _ _=>bp) (λ_ _ _ _ _=>(aC fU (hr.mono (by decide)) bN.m bN.F.kp bN.b (af (aa 1) (af (aa 2) (af (aa 0) az))))))) (af (aa 3) az)))) aq))
 (ay (aK (CF.ce (cw (N':=n10) rfl (aG (ao b7) rfl n9 rfl (by decide +kernel)) rfl (bA rfl) (cM T.ff (aa 3)) (λ_ _ _ _ _=>(bM 0 (show n10.Nodup by decide +kernel))) (λ_ _ _ _ _=>(nz (JG hr (aa 0) (aa 2)))) (λ_ _ _ _ _=>(aC vB (hr.mono (by decide)) gU.m gU.F.kp gU.b (af (aa 1) (af (aa 2) (af (aa 3) (af (aa 0) az))))))))))))
theorem G3:aT n12 n12 (ao ip):=⟨rfl,rfl,rfl,by decide +kernel,rfl,by decide +kernel,by decide +kernel⟩
theorem El{jW:Addr}{jX:FuncData}(T:Tx K mg){au ah aj av aw ar:Addr}(Y:Ec K mg au ah aj av aw ar)(jf:Gf K mg "parts" ip n12 jW jX)
  {fk:Addr}{fm:FuncData} (eQ:Gf K mg "comes_to" eh n1 fk fm)
  (mU:aP P w K mg base CX0 1 fk fm n1 (spD K cm 3)) :
  aP P w K mg base CX0 2 jW jX n12 (spD K jw 2) :=
 bY .V jf.F G3 λcdv A outer s H E hr=>(ay (aK (CF.ce (cw (N':=n11) rfl (aG (ao ip) rfl n12 rfl (by decide +kernel)) rfl (bA rfl) (gI (aH (aa 0) aq)) (λ_ _ _ _ _=>(bM 0 (show n11.Nodup by decide +kernel))) (λ_ _ _ _ _=>bp) (λ_ _ _ _ _=>(aC mU (hr.mono (by decide)) eQ.m eQ.F.kp eQ.b (af (aH (aa 2) aq) (af (aH (aa 0) aq) (af (aa 1) az)))))))))
theorem Bq:aT n14 n14 (ao eX):=⟨rfl,rfl,rfl,by decide +kernel,rfl,by decide +kernel,by decide +kernel⟩
theorem zR{gF:Addr}{gG:FuncData}(T:Tx K mg){au ah aj av aw ar:Addr}(Y:Ec K mg au ah aj av aw ar)(fJ:Gf K mg "rows_of" eX n14 gF gG) :
  aP P w K mg base CX0 1 gF gG n14 (spD K eg 2) :=
 bY .V fJ.F Bq λcdv A outer s H E hr=>(ay (aK (CF.ce (cw (N':=n13) rfl (aG (ao eX) rfl n14 rfl (by decide +kernel)) rfl (cZ rfl rfl) (JI T.zL (aH (aa 0) aq)) (λ_ _ _ _ _=>(fD 0 1 (show n13.Nodup by decide +kernel) rfl)) (λ_ _ _ _ _=>(nz (Kz hr (aH (aa 1) aq) (aa 2)))) (λ_ _ _ _ _=>(aa 0))))))
theorem zS:aT n16 n16 (ao ei):=⟨rfl,rfl,rfl,by decide +kernel,rfl,by decide +kernel,by decide +kernel⟩
theorem yd{fo:Addr}{fq:FuncData}(T:Tx K mg){au ah aj av aw ar:Addr}(Y:Ec K mg au ah aj av aw ar)(eR:Gf K mg "lines_at" ei n16 fo fq) :
  aP P w K mg base CX0 1 fo fq n16 (spD K df 2) :=
 bY .V eR.F zS λcdv A outer s H E hr=>(ay (aK (CF.ce (cw (N':=n15) rfl (aG (ao ei) rfl n16 rfl (by decide +kernel)) rfl (bA rfl) (gI (aa 1)) (λ_ _ _ _ _=>(bM 0 (show n15.Nodup by decide +kernel))) (λ_ _ _ _ _=>bp) (λ_ _ _ _ _=>(aH (aH (aH (aa 1) aq) (aa 0)) aq))))))
theorem uK:aT n18 n18 (ao b8):=⟨rfl,rfl,rfl,by decide +kernel,rfl,by decide +kernel,by decide +kernel⟩
theorem sj{du:Addr}{dw:FuncData}(T:Tx K mg){au ah aj av aw ar:Addr}(Y:Ec K mg au ah aj av aw ar)(cA:Gf K mg "hidden_line" b8 n18 du dw) :
  aP P w K mg base CX0 1 du dw n18 (spD K bS 1) :=
 bY .V cA.F uK λcdv A outer s H E hr=>(ay (aK (kx T.nN (CF.ce (cw (N':=n17) rfl (aG (ao b8) rfl n18 rfl (by decide +kernel)) rfl (bA rfl) (cM T.ff (aa 0)) (λ_ _ _ _ _=>(bM 0 (show n17.Nodup by decide +kernel))) (λ_ _ _ _ _=>bp) (λ_ _ _ _ _=>(L8 (ku hr (aa 0) aq) aq aq)))))))
theorem p9:aT n55 n16 (ao eG):=⟨rfl,rfl,rfl,by decide +kernel,rfl,by decide +kernel,by decide +kernel⟩
theorem vC{iH:Addr}{iI:FuncData}(T:Tx K mg){au ah aj av aw ar:Addr}(Y:Ec K mg au ah aj av aw ar)(iJ:Gf K mg "opened_by" eG n16 iH iI)
  {fo:Addr}{fq:FuncData} (eR:Gf K mg "lines_at" ei n16 fo fq)
  (mV:aP P w K mg base CX0 1 fo fq n16 (spD K df 2))
  {du:Addr}{dw:FuncData} (cA:Gf K mg "hidden_line" b8 n18 du dw)
  (jD:aP P w K mg base CX0 1 du dw n18 (spD K bS 1))
  {uF:Addr}{uG:FuncData} (uH:Gf K mg "held" mM n51 uF uG)
  (JO:aP P w K mg base CX0 3 uF uG n51 (spD K nG 4)) :
  aP P w K mg base CX0 4 iH iI n16 (spD K dS 2) :=
 bY .K iJ.F p9 λcdv A outer s H E hr=>(ak (aD 2 p9.nd (aC JO (hr.mono (by decide)) uH.m uH.F.kp uH.b (af (aH (aa 0) aq) (af (aH (aa 0) aq) (af (aC mV (hr.mono (by decide)) eR.m eR.F.kp eR.b (af (aa 0) (af (aa 1) az))) (af (aC jD (hr.mono (by decide)) cA.m cA.F.kp cA.b (af (aH (aa 0) aq) az)) az))))))
 (ak (dD (ku hr (aH (aa 2) aq) qu) (ay (aK (xk (af qu (af (aH (aa 2) aq) az))))) bF)
 (ay (aK (xk (af qu (af (aH (aa 2) aq) az)))))))
theorem G4:aT n14 n14 (ao jR):=⟨rfl,rfl,rfl,by decide +kernel,rfl,by decide +kernel,by decide +kernel⟩
theorem Em{p_:Addr}{qa:FuncData}(T:Tx K mg){au ah aj av aw ar:Addr}(Y:Ec K mg au ah aj av aw ar)(qb:Gf K mg "opens" jR n14 p_ qa)
  {gF:Addr}{gG:FuncData} (fJ:Gf K mg "rows_of" eX n14 gF gG)
  (o8:aP P w K mg base CX0 1 gF gG n14 (spD K eg 2))
  {iH:Addr}{iI:FuncData} (iJ:Gf K mg "opened_by" eG n16 iH iI)
  (ye:aP P w K mg base CX0 4 iH iI n16 (spD K dS 2)) :
  aP P w K mg base CX0 5 p_ qa n14 (spD K ky 2) :=
 bY .V qb.F G4 λcdv A outer s H E hr=>(ay (aK (aC ye (hr.mono (by decide)) iJ.m iJ.F.kp iJ.b (af (aa 0) (af (aC o8 (hr.mono (by decide)) fJ.m fJ.F.kp fJ.b (af (aa 0) (af (aa 1) az))) az)))))
theorem G5:aT n1 n1 (ao iq):=⟨rfl,rfl,rfl,by decide +kernel,rfl,by decide +kernel,by decide +kernel⟩
theorem En{jY:Addr}{jZ:FuncData}(T:Tx K mg){au ah aj av aw ar:Addr}(Y:Ec K mg au ah aj av aw ar)(jg:Gf K mg "added" iq n1 jY jZ) :
  aP P w K mg base CX0 1 jY jZ n1 (spD K iC 3) :=
 bY .V jg.F G5 λcdv A outer s H E hr=>(ay (aK (CF.ce (cw (N':=n19) rfl (aG (ao iq) rfl n1 rfl (by decide +kernel)) rfl (cZ rfl rfl) (mz T.mP (aa 1) (aa 2)) (λ_ _ _ _ _=>(fD 0 1 (show n19.Nodup by decide +kernel) rfl)) (λ_ _ _ _ _=>bp) (λ_ _ _ _ _=>(aW (cE (aa 0) (aa 1)) (aa 2)))))))
theorem Eo:aT n56 n56 (ao gP):=⟨rfl,rfl,rfl,by decide +kernel,rfl,by decide +kernel,by decide +kernel⟩
theorem Br{iK:Addr}{iL:FuncData}(T:Tx K mg){au ah aj av aw ar:Addr}(Y:Ec K mg au ah aj av aw ar)(gW:Gf K mg "scaled" gP n56 iK iL)
  {gQ:Addr}{gR:FuncData} (fI:Gf K mg "times" gO n3 gQ gR)
  (mT:aP P w K mg base CX0 1 gQ gR n3 (spD K iA 3)) :
  aP P w K mg base CX0 2 iK iL n56 (spD K gE 3) :=
 bY .V gW.F Eo λcdv A outer s H E hr=>(ay (aK (aC mT (hr.mono (by decide)) fI.m fI.F.kp fI.b (af (aa 0) (af (aa 2) (af (aa 1) az))))))
theorem vD:aT n57 n57 (ao cR):=⟨rfl,rfl,rfl,by decide +kernel,rfl,by decide +kernel,by decide +kernel⟩
theorem uL{dY:Addr}{dZ:FuncData}(T:Tx K mg){au ah aj av aw ar:Addr}(Y:Ec K mg au ah aj av aw ar)(cV:Gf K mg "filling_of" cR n57 dY dZ) :
  aP P w K mg base CX0 1 dY dZ n57 (spD K b5 2) :=
 bY .V cV.F vD λcdv A outer s H E hr=>(ay (aK (cE (qv (af (aa 0) az)) (kx T.nN (aa 1)))))
theorem dG:aT n21 n58 (ao bh):=⟨rfl,rfl,rfl,by decide +kernel,rfl,by decide +kernel,by decide +kernel⟩
theorem nW{bO:Addr}{bP:FuncData}(T:Tx K mg){au ah aj av aw ar:Addr}(Y:Ec K mg au ah aj av aw ar)(bC:Gf K mg "are_multipliers" bh n58 bO bP)
  {gF:Addr}{gG:FuncData} (fJ:Gf K mg "rows_of" eX n14 gF gG)
  (o8:aP P w K mg base CX0 1 gF gG n14 (spD K eg 2))
  {fo:Addr}{fq:FuncData} (eR:Gf K mg "lines_at" ei n16 fo fq)
  (mV:aP P w K mg base CX0 1 fo fq n16 (spD K df 2))
  {cg:Addr}{cj:FuncData} (bN:Gf K mg "numbers_at" b_ n7 cg cj)
  (fU:aP P w K mg base CX0 1 cg cj n7 (spD K bz 3))
  {fk:Addr}{fm:FuncData} (eQ:Gf K mg "comes_to" eh n1 fk fm)
  (mU:aP P w K mg base CX0 1 fk fm n1 (spD K cm 3))
  {du:Addr}{dw:FuncData} (cA:Gf K mg "hidden_line" b8 n18 du dw)
  (jD:aP P w K mg base CX0 1 du dw n18 (spD K bS 1)) :
  aP P w K mg base CX0 2 bO bP n58 (spD K bI 3) :=
 bY .V bC.F dG λcdv A outer s H E hr=>(ak (aD 3 dG.nd (aC mV (hr.mono (by decide)) eR.m eR.F.kp eR.b (af (aa 0) (af (aC o8 (hr.mono (by decide)) fJ.m fJ.F.kp fJ.b (af (aa 0) (af (aa 1) az))) az))))
 (ak (dD (my hr (fj T.iG (aa 2)) (fj T.iG (aa 3))) (ay (aK kl)) bF)
 (ak (aD 4 dG.nd (aH (aa 0) aq))
 (ak (aD 5 dG.nd (aH (aa 0) aq))
 (ak (kR (jL 6 (N':=n20) rfl (aG (ao bh) rfl n21 rfl (by decide +kernel)) rfl (bA rfl) (cM T.ff (aa 5)) (λ_ _ _ _ _=>(bM 0 (show n20.Nodup by decide +kernel))) (λ_ _ _ _ _=>bp) (λ_ _ _ _ _=>(aC mU (hr.mono (by decide)) eQ.m eQ.F.kp eQ.b (af (aa 1) (af (aa 2) (af (aC fU (hr.mono (by decide)) bN.m bN.F.kp bN.b (af (aa 1) (af (aa 3) (af (aa 0) az)))) az))))) dG.nd) λ_ _ _ _ h=>kq h)
 (ay (aK (rJ hr (kx T.nN (aa 6)) (aC jD (hr.mono (by decide)) cA.m cA.F.kp cA.b (af (aa 5) az))))))))))
theorem cB:aT n59 n60 (ao dj):=⟨rfl,rfl,rfl,by decide +kernel,rfl,by decide +kernel,by decide +kernel⟩
theorem vE{cH:Addr}{cI:FuncData}(T:Tx K mg){au ah aj av aw ar:Addr}(Y:Ec K mg au ah aj av aw ar)(bQ:Gf K mg "handed_on" dj n60 cH cI)
  {bO:Addr}{bP:FuncData} (bC:Gf K mg "are_multipliers" bh n58 bO bP)
  (gA:aP P w K mg base CX0 2 bO bP n58 (spD K bI 3))
  {dY:Addr}{dZ:FuncData} (cV:Gf K mg "filling_of" cR n57 dY dZ)
  (j9:aP P w K mg base CX0 1 dY dZ n57 (spD K b5 2))
  {jW:Addr}{jX:FuncData} (jf:Gf K mg "parts" ip n12 jW jX)
  (uM:aP P w K mg base CX0 2 jW jX n12 (spD K jw 2))
  {iK:Addr}{iL:FuncData} (gW:Gf K mg "scaled" gP n56 iK iL)
  (rg:aP P w K mg base CX0 2 iK iL n56 (spD K gE 3))
  {jY:Addr}{jZ:FuncData} (jg:Gf K mg "added" iq n1 jY jZ)
  (uN:aP P w K mg base CX0 1 jY jZ n1 (spD K iC 3)) :
  aP P w K mg base CX0 3 cH cI n60 (spD K gL 6) :=
 bY .V bQ.F cB λcdv A outer s H E hr=>(ak (aD 6 cB.nd (aH (aa 0) aq))
 (ak (dD (my hr (aH (aa 4) aq) (aa 6)) (ay AR) bF)
 (ak (dD (kP (iV (aC gA (hr.mono (by decide)) bC.m bC.F.kp bC.b (af (aa 0) (af (aa 1) (af (aa 2) az)))))) (ay AR) bF)
 (ak (aD 7 cB.nd (CF.ce (ud (af aq az) (fj T.iG (aH (aa 4) aq)))))
 (ak (fi PassesOwn.never rfl (xD T.mP (aa 2) (aa 3) (aa 5)) (qC 8 9 10 cB.nd rfl) (ay (aD 7 cB.nd (aC uN (hr.mono (by decide)) jg.m jg.F.kp jg.b (af (aa 6) (af (aa 7) (af (aC rg (hr.mono (by decide)) gW.m gW.F.kp gW.b (af (aa 6) (af (aC uM (hr.mono (by decide)) jf.m jf.F.kp jf.b (af (aa 4) (af (aC j9 (hr.mono (by decide)) cV.m cV.F.kp cV.b (af (aa 9) (af (aa 10) az))) az))) (af (aa 8) az)))) az)))))))
 (ay (aK (aa 7))))))))
theorem vF{cH:Addr}{cI:FuncData}(T:Tx K mg){au ah aj av aw ar:Addr}(Y:Ec K mg au ah aj av aw ar)(bQ:Gf K mg "handed_on" dj n60 cH cI)
  {dY:Addr}{dZ:FuncData} (cV:Gf K mg "filling_of" cR n57 dY dZ)
  (j9:aP P w K mg base CX0 1 dY dZ n57 (spD K b5 2))
  {jW:Addr}{jX:FuncData} (jf:Gf K mg "parts" ip n12 jW jX)
  (uM:aP P w K mg base CX0 2 jW jX n12 (spD K jw 2))
  {iK:Addr}{iL:FuncData} (gW:Gf K mg "scaled" gP n56 iK iL)
  (rg:aP P w K mg base CX0 2 iK iL n56 (spD K gE 3))
  {jY:Addr}{jZ:FuncData} (jg:Gf K mg "added" iq n1 jY jZ)
  (uN:aP P w K mg base CX0 1 jY jZ n1 (spD K iC 3))
  {bO:Addr}{bP:FuncData} (bC:Gf K mg "are_multipliers" bh n58 bO bP)
  (gA:aP P w K mg base CX0 2 bO bP n58 (spD K bI 3)) :
  aP P w K mg base (CX1 P w) 3 cH cI n60 (spX K mg cz 6) :=
 Me bQ.F cB λcdv A outer s H E hr=>(ak (aD 6 cB.nd (aH (aa 0) aq))
 (ak (dD (my hr (aH (aa 4) aq) (aa 6)) (ay (zl PySem.F.excBase_ValueError rfl Y.nO Y.p5)) bF)
 (ak (dD (kP (iV (aC gA (hr.mono (by decide)) bC.m bC.F.kp bC.b (af (aa 0) (af (aa 1) (af (aa 2) az)))))) (ay (zl PySem.F.excBase_ValueError rfl Y.nO Y.p5)) bF)
 (GO (ak (aD 7 cB.nd (CF.ce (ud (af aq az) (fj T.iG (aH (aa 4) aq)))))
 (ak (fi PassesOwn.never rfl (xD T.mP (aa 2) (aa 3) (aa 5)) (qC 8 9 10 cB.nd rfl) (ay (aD 7 cB.nd (aC uN (hr.mono (by decide)) jg.m jg.F.kp jg.b (af (aa 6) (af (aa 7) (af (aC rg (hr.mono (by decide)) gW.m gW.F.kp gW.b (af (aa 6) (af (aC uM (hr.mono (by decide)) jf.m jf.F.kp jf.b (af (aa 4) (af (aC j9 (hr.mono (by decide)) cV.m cV.F.kp cV.b (af (aa 9) (af (aa 10) az))) az))) (af (aa 8) az)))) az)))))))
 (ay (aK (aa 7)))))))))
theorem lI:aT n61 n62 (ao dm):=⟨rfl,rfl,rfl,by decide +kernel,rfl,by decide +kernel,by decide +kernel⟩
theorem vG{cJ:Addr}{cK:FuncData}(T:Tx K mg){au ah aj av aw ar:Addr}(Y:Ec K mg au ah aj av aw ar)(aJ:Gf K mg "_law_cell" dm n62 cJ cK) :
  aP P w K mg base CX0 1 cJ cK n62 (spD K bB 2) :=
 bY .V aJ.F lI λcdv A outer s H E hr=>(ak (dD (Ks (aa 1) (fj T.iG (aa 0))) (ay (aK (aH (aa 0) (aa 1)))) bF)
 (ak (aD 2 lI.nd (cE (eF (aa 1) aq) aq))
 (ak (dD (Kt (fj T.iG (aa 0)) aq) (ay (aD 2 lI.nd (cE (aa 2) (eF (aW (aH (aa 0) (aW (eF (aa 1) aq) (fj T.iG (aa 0)))) aq) aq)))) bF)
 (ay (aK (aW (eF (aW (eF (aa 2) (aa 2)) aq) aq) aq))))))
theorem oa:aT n63 n64 (ao cS):=⟨rfl,rfl,rfl,by decide +kernel,rfl,by decide +kernel,by decide +kernel⟩
theorem uO{d0:Addr}{d3:FuncData}(T:Tx K mg){au ah aj av aw ar:Addr}(Y:Ec K mg au ah aj av aw ar)(cW:Gf K mg "_law_mixed" cS n64 d0 d3) :
  aP P w K mg base CX0 1 d0 d3 n64 (spD K ij 2) :=
 bY .V cW.F oa λcdv A outer s H E hr=>(ak (aD 2 oa.nd (aW (eF (cE (aW (aa 0) aq) aq) (cE aq (eF (aa 1) (aa 1)))) aq))
 (ay (aK (aW (eF (aW (eF (aa 2) (cE (aa 2) (eF aq (aa 1)))) aq) aq) aq))))
theorem cq:aT n65 n66 (ao bJ):=⟨rfl,rfl,rfl,by decide +kernel,rfl,by decide +kernel,by decide +kernel⟩
theorem rh{aY:Addr}{aZ:FuncData}(T:Tx K mg){au ah aj av aw ar:Addr}(Y:Ec K mg au ah aj av aw ar)(aR:Gf K mg "_law_numbers" bJ n66 aY aZ)
  {d0:Addr}{d3:FuncData} (cW:Gf K mg "_law_mixed" cS n64 d0 d3)
  (j_:aP P w K mg base CX0 1 d0 d3 n64 (spD K ij 2)) :
  aP P w K mg base CX0 2 aY aZ n66 (spD K iW 4) :=
 bY .D aR.F cq λcdv A outer s H E hr=>(ak (aD 4 cq.nd (CF.cell (eD az)))
 (ak (fi PassesOwn.never rfl (cM T.ff (aa 2)) (bM 5 cq.nd) (ay (dD (iV (aa 3)) (ak (eV (aa 4) (aW (aa 0) (aa 1)))
 (ay (aD 0 cq.nd (ed (aa 0) (aa 1))))) (ay (eV (aa 4) (aW (ed (aC j_ (hr.mono (by decide)) cW.m cW.F.kp cW.b (af (aa 0) (af (aa 5) az))) aq) (aa 1)))))))
 (ay (aK (aa 4)))))
theorem rj{aY:Addr}{aZ:FuncData}(T:Tx K mg){au ah aj av aw ar:Addr}(Y:Ec K mg au ah aj av aw ar)(aR:Gf K mg "_law_numbers" bJ n66 aY aZ)
  {d0:Addr}{d3:FuncData} (cW:Gf K mg "_law_mixed" cS n64 d0 d3)
  (j_:aP P w K mg base CX0 1 d0 d3 n64 (spD K ij 2)) :
  aP P w K mg base CX0 2 aY aZ n66 (spD K cp 4) :=
 bY .V aR.F cq λcdv A outer s H E hr=>(ak (aD 4 cq.nd (CF.cell (eD az)))
 (ak (fi PassesOwn.never rfl (cM T.ff (aa 2)) (bM 5 cq.nd) (ay (dD (iV (aa 3)) (ak (eV (aa 4) (aW (aa 0) (aa 1)))
 (ay (aD 0 cq.nd (ed (aa 0) (aa 1))))) (ay (eV (aa 4) (aW (ed (aC j_ (hr.mono (by decide)) cW.m cW.F.kp cW.b (af (aa 0) (af (aa 5) az))) aq) (aa 1)))))))
 (ay (aK (aa 4)))))
theorem bj:aT n67 n68 (ao dW):=⟨rfl,rfl,rfl,by decide +kernel,rfl,by decide +kernel,by decide +kernel⟩
theorem uP{gX:Addr}{gY:FuncData}(T:Tx K mg){au ah aj av aw ar:Addr}(Y:Ec K mg au ah aj av aw ar)(d4:Gf K mg "_law_table" dW n68 gX gY)
  {cJ:Addr}{cK:FuncData} (aJ:Gf K mg "_law_cell" dm n62 cJ cK)
  (cC:aP P w K mg base CX0 1 cJ cK n62 (spD K bB 2))
  {aY:Addr}{aZ:FuncData} (aR:Gf K mg "_law_numbers" bJ n66 aY aZ)
  (sk:aP P w K mg base CX0 2 aY aZ n66 (spD K iW 4)) :
  aP P w K mg base CX0 3 gX gY n68 (spD K fP 3) :=
 bY .V d4.F bj λcdv A outer s H E hr=>(ak (aD 3 bj.nd (aC cC (hr.mono (by decide)) aJ.m aJ.F.kp aJ.b (af (aa 0) (af (aa 1) az))))
 (ak (aD 4 bj.nd (rJ hr (aW (aa 3) aq) aq))
 (ak (aD 5 bj.nd (cE aq (aW (ed (aa 3) aq) aq)))
 (ak (aD 6 bj.nd (aW (ed (aa 3) aq) aq))
 (ak (aD 7 bj.nd (cE aq (aW (ed (aa 3) aq) aq)))
 (ak (dD (ku hr (aW (ed (aa 3) aq) aq) aq) (ak (aD 5 bj.nd (cE (aa 5) aq))
 (ay (aD 6 bj.nd (cE (aa 6) aq)))) bF)
 (ak (aD 8 bj.nd (CF.cell (eD az)))
 (ak (fi PassesOwn.never rfl (cM T.ff (aa 6)) (bM 9 bj.nd) (ak (aD 3 bj.nd (aC cC (hr.mono (by decide)) aJ.m aJ.F.kp aJ.b (af (aa 0) (af (cE (cE (aa 1) aq) (aa 9)) az))))
 (ak (aD 10 bj.nd (aC sk (hr.mono (by decide)) aR.m aR.F.kp aR.b (af (ed (aa 3) aq) (af (aa 2) (af (aa 5) (af (aa 4) az))))))
 (ak (dD (ku hr (aW (ed (aa 3) aq) aq) aq) (ak (aD 11 bj.nd (aW (ed (aa 3) aq) (aa 2)))
 (ak (aD 10 bj.nd (CF.cell (eD (af aq az))))
 (ay (zb PassesOwn.never (Ks (fj T.iG (aa 10)) (aa 5)) (ay (eV (aa 10) (aW (eF (aH (aa 10) (xq aq)) (aa 11)) (aa 2)))))))) bF)
 (ay (eV (aa 8) (qv (af (aW (aa 3) (aa 7)) (af (kx T.nN (aa 10)) az)))))))))
 (ay (aK (qv (af (aa 2) (af (aa 5) (af (kx T.nN (aa 8)) az))))))))))))))
theorem Ep:aT n23 n23 (ao iF):=⟨rfl,rfl,rfl,by decide +kernel,rfl,by decide +kernel,by decide +kernel⟩
theorem Bs{mW:Addr}{mX:FuncData}(T:Tx K mg){au ah aj av aw ar:Addr}(Y:Ec K mg au ah aj av aw ar)(mY:Gf K mg "_law_p" iF n23 mW mX) :
  aP P w K mg base CX0 1 mW mX n23 (spD K nH 1) :=
 bY .V mY.F Ep λcdv A outer s H E hr=>(ay (aK (aH (CF.ce (eD (af aq (af aq (af aq (af aq (af aq (af aq (af aq (af aq az)))))))))) (aW (aa 0) aq))))
theorem vH:aT n23 n23 (ao cT):=⟨rfl,rfl,rfl,by decide +kernel,rfl,by decide +kernel,by decide +kernel⟩
theorem uQ{gZ:Addr}{g_:FuncData}(T:Tx K mg){au ah aj av aw ar:Addr}(Y:Ec K mg au ah aj av aw ar)(hG:Gf K mg "_law_hands" cT n23 gZ g_) :
  aP P w K mg base CX0 1 gZ g_ n23 (spD K il 1) :=
 bY .V hG.F vH λcdv A outer s H E hr=>(ay (aK (CF.ce (cw (N':=n22) rfl (aG (ao cT) rfl n23 rfl (by decide +kernel)) rfl (bA rfl) (cM T.ff aq) (λ_ _ _ _ _=>(bM 0 (show n22.Nodup by decide +kernel))) (λ_ _ _ _ _=>(nz (ku hr (GI (Mp (aa 1) (aa 0)) aq) aq))) (λ_ _ _ _ _=>(aa 0))))))
theorem yf:aT n25 n25 (ao dX):=⟨rfl,rfl,rfl,by decide +kernel,rfl,by decide +kernel,by decide +kernel⟩
theorem vI{iM:Addr}{iN:FuncData}(T:Tx K mg){au ah aj av aw ar:Addr}(Y:Ec K mg au ah aj av aw ar)(iO:Gf K mg "_law_rows" dX n25 iM iN) :
  aP P w K mg base CX0 1 iM iN n25 (spD K ja 2) :=
 bY .V iO.F yf λcdv A outer s H E hr=>(ay (aK (CF.ce (cw (N':=n24) rfl (aG (ao dX) rfl n25 rfl (by decide +kernel)) rfl (bA rfl) (cM T.ff (fj T.iG (aH (aa 0) aq))) (λ_ _ _ _ _=>(bM 0 (show n24.Nodup by decide +kernel))) (λ_ _ _ _ _=>(nz (Kz hr (aH (aH (aH (aa 2) aq) (aa 0)) aq) (aa 1)))) (λ_ _ _ _ _=>(aa 0))))))
theorem vJ:aT n28 n28 (ao cf):=⟨rfl,rfl,rfl,by decide +kernel,rfl,by decide +kernel,by decide +kernel⟩
theorem uR{d5:Addr}{d6:FuncData}(T:Tx K mg){au ah aj av aw ar:Addr}(Y:Ec K mg au ah aj av aw ar)(bU:Gf K mg "_law_given" cf n28 d5 d6) :
  aP P w K mg base CX0 1 d5 d6 n28 (spD K b6 2) :=
 bY .V bU.F vJ λcdv A outer s H E hr=>(ay (aK (CF.ce (cw (N':=n27) rfl (aG (ao cf) rfl n28 rfl (by decide +kernel)) rfl (cZ rfl rfl) (gI (aH (aa 0) aq)) (λ_ _ _ _ _=>(fD 0 1 (show n27.Nodup by decide +kernel) rfl)) (λ_ _ _ _ _=>bp) (λ_ _ _ _ _=>(aW (xx hr T.Cs (CF.ce (cw (N':=n26) rfl (t_ (ao cf) rfl (by decide +kernel)) rfl (cZ rfl rfl) (mz T.mP (aa 1) (aa 3)) (λ_ _ _ _ _=>(fD 0 1 (show n26.Nodup by decide +kernel) rfl)) (λ_ _ _ _ _=>bp) (λ_ _ _ _ _=>(eF (aa 0) (aa 1)))))) (aH (aa 2) aq)))))))
theorem vK:aT n29 n29 (ao cU):=⟨rfl,rfl,rfl,by decide +kernel,rfl,by decide +kernel,by decide +kernel⟩
theorem uS{d7:Addr}{d8:FuncData}(T:Tx K mg){au ah aj av aw ar:Addr}(Y:Ec K mg au ah aj av aw ar)(cX:Gf K mg "_law_whole" cU n29 d7 d8) :
  aP P w K mg base CX0 1 d7 d8 n29 (spD K eW 2) :=
 bY .V cX.F vK λcdv A outer s H E hr=>(ay (aK (AQ (DO T.eP T.GV (aa 0)) (AQ (FO (A3 T.eP T.MI (aa 0))) (FL (ue aq (aa 0) (aa 1)))))))
theorem gh:aT n30 n69 (ao bT):=⟨rfl,rfl,rfl,by decide +kernel,rfl,by decide +kernel,by decide +kernel⟩
theorem rk{ft:Addr}{fu:FuncData}(T:Tx K mg){au ah aj av aw ar:Addr}(Y:Ec K mg au ah aj av aw ar)(cL:Gf K mg "_law_opening" bT n69 ft fu)
  {d7:Addr}{d8:FuncData} (cX:Gf K mg "_law_whole" cU n29 d7 d8)
  (ka:aP P w K mg base CX0 1 d7 d8 n29 (spD K eW 2)) :
  aP P w K mg base CX0 2 ft fu n69 (spD K dN 3) :=
 bY .V cL.F gh λcdv A outer s H E hr=>(ak (A9 (qC 3 4 5 gh.nd rfl) (aa 0))
 (ak (dD (CW.ct (wc (kP (iV (uc T.eP T.mO (aa 2)))) (km (my hr (fj T.iG (aa 2)) (fj T.iG (aa 1)))))) (ay (aK kl)) bF)
 (ak (dD (kP (iV (Gv hr T.KD (CF.ce (cw (N':=n29) rfl (aG (ao bT) rfl n30 rfl (by decide +kernel)) rfl (bA rfl) (gI (aa 2)) (λ_ _ _ _ _=>(bM 0 (show n29.Nodup by decide +kernel))) (λ_ _ _ _ _=>bp) (λ_ _ _ _ _=>(aC ka (hr.mono (by decide)) cX.m cX.F.kp cX.b (af (aa 0) (af (aa 1) az))))))))) (ay (aK kl)) bF)
 (ak (fi PassesOwn.never rfl (cM T.ff (aa 4)) (bM 6 gh.nd) (ak (aD 7 gh.nd (xx hr T.Cs (CF.ce (cw (N':=n31) rfl (aG (ao bT) rfl n30 rfl (by decide +kernel)) rfl (cZ rfl rfl) (mz T.mP (aa 1) (aa 2)) (λ_ _ _ _ _=>(fD 0 1 (show n31.Nodup by decide +kernel) rfl)) (λ_ _ _ _ _=>bp) (λ_ _ _ _ _=>(eF (aa 1) (aH (aH (aH (aa 3) (aa 0)) aq) (aa 2))))))))
 (ay (dD (my hr (aW (aa 7) (aa 3)) (Cp T.GV (rJ hr (aa 6) aq))) (ay (aK kl)) bF))))
 (ay (aK kl))))))
theorem jh:aT n33 n70 (ao dn):=⟨rfl,rfl,rfl,by decide +kernel,rfl,by decide +kernel,by decide +kernel⟩
theorem vL{iP:Addr}{iQ:FuncData}(T:Tx K mg){au ah aj av aw ar:Addr}(Y:Ec K mg au ah aj av aw ar)(iR:Gf K mg "_law_more" dn n70 iP iQ)
  {fV:Addr}{fW:FuncData} (fX:Gf K mg "nought_sums" b7 n54 fV fW)
  (uT:aP P w K mg base CX0 3 fV fW n54 (spD K gK 3)) :
  aP P w K mg base CX0 4 iP iQ n70 (spD K fG 4) :=
 bY .V iR.F jh λcdv A outer s H E hr=>(ak (A9 (qC 4 5 6 jh.nd rfl) (aa 0))
 (ak (aD 7 jh.nd (aC uT (hr.mono (by decide)) fX.m fX.F.kp fX.b (af (aa 4) (af (aa 5) (af (CF.ce (cw (N':=n32) rfl (aG (ao dn) rfl n33 rfl (by decide +kernel)) rfl (bA rfl) (gI (aa 1)) (λ_ _ _ _ _=>(bM 0 (show n32.Nodup by decide +kernel))) (λ_ _ _ _ _=>bp) (λ_ _ _ _ _=>(aH (aH (aa 1) (aa 0)) aq)))) az)))))
 (ak (dD (CW.ct (wc (ku hr (aa 7) (CF.ce (eD az))) (km (ku hr (aW (aa 3) aq) aq)))) (ay (aK (CF.ce (pS T.mO (aa 2))))) bF)
 (ak (aD 8 jh.nd (aH (aa 7) (aW (ed (aa 3) aq) (fj T.iG (aa 7)))))
 (ay (aK (CF.ce (cw (N':=n34) rfl (aG (ao dn) rfl n33 rfl (by decide +kernel)) rfl (cZ rfl rfl) (mz T.mP (aa 2) (aa 8)) (λ_ _ _ _ _=>(fD 0 1 (show n34.Nodup by decide +kernel) rfl)) (λ_ _ _ _ _=>bp) (λ_ _ _ _ _=>(aW (cE (aa 0) (eF (ed (aa 3) aq) (aa 1))) (aa 2)))))))))))
theorem mZ:aT n71 n72 (ao dq):=⟨rfl,rfl,rfl,by decide +kernel,rfl,by decide +kernel,by decide +kernel⟩
theorem sm{fY:Addr}{fZ:FuncData}(T:Tx K mg){au ah aj av aw ar:Addr}(Y:Ec K mg au ah aj av aw ar)(f_:Gf K mg "_law_spoilt" dq n72 fY fZ) :
  aP P w K mg base CX0 1 fY fZ n72 (spD K dE 4) :=
 bY .V f_.F mZ λcdv A outer s H E hr=>(ak (dD (CW.ct (wc (ku hr (aa 2) aq) (km (ku hr (aa 0) (CF.ce (eD az)))))) (ay (aK (cE (aa 0) (CF.ce (eD (af aq az)))))) bF)
 (ak (dD (ku hr (aa 2) aq) (ay (aK (xA (aa 0) sI (sJ (xq aq))))) bF)
 (ak (aD 4 mZ.nd (aW (aa 3) (fj T.iG (aa 0))))
 (ay (aK (cE (cE (xA (aa 0) sI (sJ (aa 4))) (CF.ce (eD (af (aW (cE (aH (aa 0) (aa 4)) aq) (aa 1)) az)))) (xA (aa 0) (sJ (cE (aa 4) aq)) sI)))))))
theorem iX:aT n73 n74 (ao cF):=⟨rfl,rfl,rfl,by decide +kernel,rfl,by decide +kernel,by decide +kernel⟩
theorem rq{fv:Addr}{fw:FuncData}(T:Tx K mg){au ah aj av aw ar:Addr}(Y:Ec K mg au ah aj av aw ar)(bK:Gf K mg "_law_refused" cF n74 fv fw)
  {cH:Addr}{cI:FuncData} (bQ:Gf K mg "handed_on" dj n60 cH cI)
  (qc:aP P w K mg base (CX1 P w) 3 cH cI n60 (spX K mg cz 6)) :
  aP P w K mg base CX0 4 fv fw n74 (spD K cO 7) :=
 bY .V bK.F iX λcdv A outer s H E hr=>(ak (dD (iV (aa 6)) (ak (Ge rfl rfl (λE pn=>(ay (B_ (zm qc (hr.mono (by decide)) bQ.m bQ.F.kp bQ.b (af (aa 0) (af (aa 1) (af (aa 2) (af (aa 3) (af (aa 4) (af (aa 5) az)))))))))) (GN (Kr (i:=7) rfl rfl rfl iX.nd rfl rfl Y.nO Y.p4 (sL Y.p5) Y.zM (sL Y.zN) Y.s0 λev=>(ay (aK (AQ (Mi T.eP Y.nO (GL ⟨_,⟨Y.p4,Y.ya⟩,Y.s1⟩) (aa 7)) (FL (FO (Jq [("NoNumber",_,aj),("NoText",_,av),("TooFew",_,aw),("TooMany",_,ar)] T.eP (sM ⟨rfl,Y.Bp,by show (("NoNumber":Str)=="__debug__")=false;decide⟩ (sM ⟨rfl,Y.GW,by show (("NoText":Str)=="__debug__")=false;decide⟩ (sM ⟨rfl,Y.GX,by show (("TooFew":Str)=="__debug__")=false;decide⟩ (sM ⟨rfl,Y.Eh,by show (("TooMany":Str)=="__debug__")=false;decide⟩ MD)))) (Nat.le_of_ble_eq_true rfl) (GL ⟨_,⟨Y.p4,Y.ya⟩,Y.s2⟩) (aa 7))))))))))
 (ay (aK kl))) bF)
 (ak (Ge rfl rfl (λE pn=>(ay (B_ (zm qc (hr.mono (by decide)) bQ.m bQ.F.kp bQ.b (af (aa 0) (af (aa 1) (af (aa 2) (af (aa 3) (af (aa 4) (af (aa 5) az)))))))))) (GN (Kr (i:=7) rfl rfl rfl iX.nd rfl rfl Y.nO Y.p4 (sL Y.p5) Y.nO (sL Y.p5) Y.s3 λev=>(ay (aK (Jp (Tn:="ValueError") T.eP T.x_ (by decide +kernel) (GL ⟨_,⟨Y.p4,Y.ya⟩,Y.s4⟩) (aa 7)))))))
 (ay (aK kl))))
theorem eI:aT n36 n75 (ao dF):=⟨rfl,rfl,rfl,by decide +kernel,rfl,by decide +kernel,by decide +kernel⟩
theorem yg{jE:Addr}{jF:FuncData}(T:Tx K mg){au ah aj av aw ar:Addr}(Y:Ec K mg au ah aj av aw ar)(jG:Gf K mg "_law_due" dF n75 jE jF)
  {d5:Addr}{d6:FuncData} (bU:Gf K mg "_law_given" cf n28 d5 d6)
  (ir:aP P w K mg base CX0 1 d5 d6 n28 (spD K b6 2)) :
  aP P w K mg base CX0 2 jE jF n75 (spD K iE 5) :=
 bY .V jG.F eI λcdv A outer s H E hr=>(ak (A9 (qC 5 6 7 eI.nd rfl) (aa 1))
 (ak (kR (jL 8 (N':=n35) rfl (aG (ao dF) rfl n36 rfl (by decide +kernel)) rfl (bA rfl) (gI (aa 7)) (λ_ _ _ _ _=>(bM 0 (show n35.Nodup by decide +kernel))) (λ_ _ _ _ _=>bp) (λ_ _ _ _ _=>aq) eI.nd) λ_ _ _ _ h=>kq h)
 (ak (fi PassesOwn.never rfl (xD T.mP (aa 2) (aa 3) (aa 4)) (qC 9 10 11 eI.nd rfl) (ak (aD 12 eI.nd (aC ir (hr.mono (by decide)) bU.m bU.F.kp bU.b (af (aa 1) (af (cE (CF.ce (eD (af (aa 10) az))) (aa 11)) az))))
 (ay (kR (jL 8 (N':=n37) rfl (aG (ao dF) rfl n36 rfl (by decide +kernel)) rfl (cZ rfl rfl) (mz T.mP (aa 8) (aa 12)) (λ_ _ _ _ _=>(fD 0 1 (show n37.Nodup by decide +kernel) rfl)) (λ_ _ _ _ _=>bp) (λ_ _ _ _ _=>(aW (cE (aa 0) (eF (aa 3) (aa 1))) (aa 2))) eI.nd) λ_ _ _ _ h=>kq h))))
 (ak (aD 13 eI.nd (CF.cell (eD az)))
 (ak (fi PassesOwn.never rfl (cM T.ff (xp (aa 6) aq)) (bM 14 eI.nd) (ay (eV (aa 13) (aW (xx hr T.Cs (CF.ce (cw (N':=n38) rfl (aG (ao dF) rfl n36 rfl (by decide +kernel)) rfl (cZ rfl rfl) (mz T.mP (aa 2) (aa 4)) (λ_ _ _ _ _=>(fD 0 1 (show n38.Nodup by decide +kernel) rfl)) (λ_ _ _ _ _=>bp) (λ_ _ _ _ _=>(eF (aa 0) (aH (aa 1) (aa 2))))))) (aa 5)))))
 (ay (aK (CF.ce (eD (af (aa 8) (af (aa 13) az)))))))))))
theorem bg:aT n40 n76 (ao cG):=⟨rfl,rfl,rfl,by decide +kernel,rfl,by decide +kernel,by decide +kernel⟩
theorem vM{iS:Addr}{iT:FuncData}(T:Tx K mg){au ah aj av aw ar:Addr}(Y:Ec K mg au ah aj av aw ar)(iU:Gf K mg "_law_good" cG n76 iS iT)
  {iM:Addr}{iN:FuncData} (iO:Gf K mg "_law_rows" dX n25 iM iN)
  (yh:aP P w K mg base CX0 1 iM iN n25 (spD K ja 2))
  {p_:Addr}{qa:FuncData} (qb:Gf K mg "opens" jR n14 p_ qa)
  (G6:aP P w K mg base CX0 5 p_ qa n14 (spD K ky 2))
  {cJ:Addr}{cK:FuncData} (aJ:Gf K mg "_law_cell" dm n62 cJ cK)
  (cC:aP P w K mg base CX0 1 cJ cK n62 (spD K bB 2))
  {d5:Addr}{d6:FuncData} (bU:Gf K mg "_law_given" cf n28 d5 d6)
  (ir:aP P w K mg base CX0 1 d5 d6 n28 (spD K b6 2))
  {aY:Addr}{aZ:FuncData} (aR:Gf K mg "_law_numbers" bJ n66 aY aZ)
  (gi:aP P w K mg base CX0 2 aY aZ n66 (spD K cp 4))
  {fv:Addr}{fw:FuncData} (bK:Gf K mg "_law_refused" cF n74 fv fw)
  (iY:aP P w K mg base CX0 4 fv fw n74 (spD K cO 7))
  {ft:Addr}{fu:FuncData} (cL:Gf K mg "_law_opening" bT n69 ft fu)
  (lK:aP P w K mg base CX0 2 ft fu n69 (spD K dN 3))
  {iP:Addr}{iQ:FuncData} (iR:Gf K mg "_law_more" dn n70 iP iQ)
  (yi:aP P w K mg base CX0 4 iP iQ n70 (spD K fG 4))
  {cH:Addr}{cI:FuncData} (bQ:Gf K mg "handed_on" dj n60 cH cI)
  (yj:aP P w K mg base CX0 3 cH cI n60 (spD K gL 6))
  {jE:Addr}{jF:FuncData} (jG:Gf K mg "_law_due" dF n75 jE jF)
  (zT:aP P w K mg base CX0 2 jE jF n75 (spD K iE 5))
  {d7:Addr}{d8:FuncData} (cX:Gf K mg "_law_whole" cU n29 d7 d8)
  (ka:aP P w K mg base CX0 1 d7 d8 n29 (spD K eW 2))
  {fY:Addr}{fZ:FuncData} (f_:Gf K mg "_law_spoilt" dq n72 fY fZ)
  (uU:aP P w K mg base CX0 1 fY fZ n72 (spD K dE 4)) :
  aP P w K mg base CX0 6 iS iT n76 (spD K gN 5) :=
 bY .V iU.F bg λcdv A outer s H E hr=>(ak (aD 5 bg.nd (aH (aa 1) aq))
 (ak (aD 6 bg.nd (aC yh (hr.mono (by decide)) iO.m iO.F.kp iO.b (af (aa 1) (af (aa 2) az))))
 (ak (aD 7 bg.nd (aC G6 (hr.mono (by decide)) qb.m qb.F.kp qb.b (af (aa 1) (af (aa 2) az))))
 (ak (aD 8 bg.nd (aW (aC cC (hr.mono (by decide)) aJ.m aJ.F.kp aJ.b (af (aa 0) (af aq az))) (Mo aq aq)))
 (ak (aD 9 bg.nd (aC ir (hr.mono (by decide)) bU.m bU.F.kp bU.b (af (aa 1) (af (aa 4) az))))
 (ak (kR (jL 10 (N':=n39) rfl (aG (ao cG) rfl n40 rfl (by decide +kernel)) rfl (bA rfl) (gI (aa 6)) (λ_ _ _ _ _=>(bM 0 (show n39.Nodup by decide +kernel))) (λ_ _ _ _ _=>bp) (λ_ _ _ _ _=>(aH (aa 1) (aa 0))) bg.nd) λ_ _ _ _ h=>kq h)
 (ak (aD 11 bg.nd (CF.cell (eD az)))
 (ak (fi PassesOwn.never rfl (cM T.ff (fj T.iG (aa 6))) (bM 12 bg.nd) (ay (eV (aa 11) (aC gi (hr.mono (by decide)) aR.m aR.F.kp aR.b (af (aC cC (hr.mono (by decide)) aJ.m aJ.F.kp aJ.b (af (aa 0) (af (cE aq (aa 12)) az))) (af (aa 5) (af (xp (aH (aa 3) aq) aq) (af (rJ hr (aW (ed (aa 8) aq) aq) aq) az))))))))
 (ak (dD (ku hr (aH (aa 7) aq) qu) (ak (aD 13 bg.nd (aC gi (hr.mono (by decide)) aR.m aR.F.kp aR.b (af (aa 8) (af (aa 5) (af (fj T.iG (aa 6)) (af kl az))))))
 (ay (aK (aC iY (hr.mono (by decide)) bK.m bK.F.kp bK.b (af (aa 1) (af (aa 2) (af (aa 13) (af (aa 10) (af (aa 3) (af (aa 11) (af (rJ hr (aW (ed (aa 8) aq) aq) aq) az))))))))))) bF)
 (ak (dD (kP (iV (aC lK (hr.mono (by decide)) cL.m cL.F.kp cL.b (af (aa 1) (af (aa 6) (af (aH (aa 7) aq) az)))))) (ay (aK kl)) bF)
 (ak (aD 14 bg.nd (aC yi (hr.mono (by decide)) iR.m iR.F.kp iR.b (af (aa 1) (af (aa 6) (af (aH (aa 7) aq) (af (ed (aa 8) aq) az))))))
 (ak (aD 15 bg.nd (CF.ce (eD (af (CF.ce (pS T.mO (aa 2))) (af (CF.ce (pS T.mO (aa 14))) (af (CF.ce (pS T.mO (aa 10))) (af (CF.ce (cw (N':=n41) rfl (aG (ao cG) rfl n40 rfl (by decide +kernel)) rfl (bA rfl) (gI (aa 11)) (λ_ _ _ _ _=>(bM 0 (show n41.Nodup by decide +kernel))) (λ_ _ _ _ _=>bp) (λ_ _ _ _ _=>(CF.ce (pS T.mO (aa 0)))))) az)))))))
 (ak (aD 16 bg.nd (aC yj (hr.mono (by decide)) bQ.m bQ.F.kp bQ.b (af (aa 1) (af (aH (aa 15) aq) (af (aH (aa 15) aq) (af (aH (aa 15) aq) (af (aa 3) (af (aH (aa 15) aq) az))))))))
 (ak (JK (GR 17 18 bg.nd rfl) (aC zT (hr.mono (by decide)) jG.m jG.F.kp jG.b (af (aa 1) (af (aa 3) (af (aa 14) (af (aa 10) (af (aa 11) az)))))))
 (ak (dD (CW.ct (wc (my hr (aa 16) (aa 17)) (wc (my hr (aa 15) (CF.ce (eD (af (aa 2) (af (aa 14) (af (aa 10) (af (aa 11) az))))))) (km (kP (iV (uc T.eP T.mO (aa 16)))))))) (ay (aK kl)) bF)
 (ak (dD (CW.ct (wc (my hr (aa 17) (aC ir (hr.mono (by decide)) bU.m bU.F.kp bU.b (af (aa 3) (af (cE (CF.ce (eD (af (aH (aa 4) aq) az))) (aa 18)) az)))) (km (kP (iV (Gv hr T.KD (CF.ce (cw (N':=n29) rfl (aG (ao cG) rfl n40 rfl (by decide +kernel)) rfl (bA rfl) (gI (aa 16)) (λ_ _ _ _ _=>(bM 0 (show n29.Nodup by decide +kernel))) (λ_ _ _ _ _=>bp) (λ_ _ _ _ _=>(aC ka (hr.mono (by decide)) cX.m cX.F.kp cX.b (af (aa 0) (af (aa 1) az)))))))))))) (ay (aK kl)) bF)
 (ak (aD 19 bg.nd (aC uU (hr.mono (by decide)) f_.m f_.F.kp f_.b (af (aa 14) (af (aa 5) (af (aW (ed (aa 8) aq) aq) (af (ed (aa 8) aq) az))))))
 (ak (dD (kP (iV (aC lK (hr.mono (by decide)) cL.m cL.F.kp cL.b (af (aa 1) (af (aa 6) (af (aa 19) az)))))) (ay (dD (kP (iV (aC iY (hr.mono (by decide)) bK.m bK.F.kp bK.b (af (aa 1) (af (aa 2) (af (aa 19) (af (aa 10) (af (aa 3) (af (aa 11) (af (rJ hr (aW (ed (aa 8) aq) aq) aq) az)))))))))) (ay (aK kl)) bF)) bF)
 (ak (aD 20 bg.nd (qv (af (xp aq (Cp T.GV (rJ hr (aa 5) aq))) (af (aH (aa 3) aq) (af (qv az) az)))))
 (ay (aK (aC iY (hr.mono (by decide)) bK.m bK.F.kp bK.b (af (aa 1) (af (aa 2) (af (aa 14) (af (aa 10) (af (aa 20) (af (aa 11) (af (rJ hr (aW (ed (aa 8) aq) aq) aq) az)))))))))))))))))))))))))))))
theorem o9:aT n77 n78 (ao n_):=⟨rfl,rfl,rfl,by decide +kernel,rfl,by decide +kernel,by decide +kernel⟩
theorem JP{KH:Addr}{KI:FuncData}(T:Tx K mg){au ah aj av aw ar:Addr}(Y:Ec K mg au ah aj av aw ar)(O7:Gf K mg "law" n_ n78 KH KI)
  {cJ:Addr}{cK:FuncData} (aJ:Gf K mg "_law_cell" dm n62 cJ cK)
  (cC:aP P w K mg base CX0 1 cJ cK n62 (spD K bB 2))
  {mW:Addr}{mX:FuncData} (mY:Gf K mg "_law_p" iF n23 mW mX)
  (Er:aP P w K mg base CX0 1 mW mX n23 (spD K nH 1))
  {gX:Addr}{gY:FuncData} (d4:Gf K mg "_law_table" dW n68 gX gY)
  (og:aP P w K mg base CX0 3 gX gY n68 (spD K fP 3))
  {aY:Addr}{aZ:FuncData} (aR:Gf K mg "_law_numbers" bJ n66 aY aZ)
  (gi:aP P w K mg base CX0 2 aY aZ n66 (spD K cp 4))
  {gZ:Addr}{g_:FuncData} (hG:Gf K mg "_law_hands" cT n23 gZ g_)
  (vN:aP P w K mg base CX0 1 gZ g_ n23 (spD K il 1))
  {iS:Addr}{iT:FuncData} (iU:Gf K mg "_law_good" cG n76 iS iT)
  (yk:aP P w K mg base CX0 6 iS iT n76 (spD K gN 5)) :
  aP P w K mg base CX0 7 KH KI n78 (spD K o7 1) :=
 bY .V O7.F o9 λcdv A outer s H E hr=>(ak (aD 1 o9.nd (aC Er (hr.mono (by decide)) mY.m mY.F.kp mY.b (af (aC cC (hr.mono (by decide)) aJ.m aJ.F.kp aJ.b (af (aa 0) (af aq az))) az)))
 (ak (aD 2 o9.nd (aC og (hr.mono (by decide)) d4.m d4.F.kp d4.b (af (aa 0) (af aq (af (aa 1) az)))))
 (ak (aD 3 o9.nd (aC og (hr.mono (by decide)) d4.m d4.F.kp d4.b (af (aa 0) (af aq (af (aa 1) az)))))
 (ak (aD 4 o9.nd (aC gi (hr.mono (by decide)) aR.m aR.F.kp aR.b (af (aC cC (hr.mono (by decide)) aJ.m aJ.F.kp aJ.b (af (aa 0) (af aq az))) (af (aa 1) (af (aH (aa 2) aq) (af kl az))))))
 (ak (aD 5 o9.nd (aC vN (hr.mono (by decide)) hG.m hG.F.kp hG.b (af (aC cC (hr.mono (by decide)) aJ.m aJ.F.kp aJ.b (af (aa 0) (af aq az))) az)))
 (ak (dD (Kt (aW (aC cC (hr.mono (by decide)) aJ.m aJ.F.kp aJ.b (af (aa 0) (af aq az))) aq) aq) (ay (aD 5 o9.nd (CF.ce (eD (af aq (af aq (af aq (af aq (af aq az))))))))) bF)
 (ay (aK (aC yk (hr.mono (by decide)) iU.m iU.F.kp iU.b (af (aa 0) (af (aa 2) (af (aa 5) (af (aa 3) (af (aa 4) az))))))))))))))
theorem us1{us:List Value}(h:us.length=1):∃a0,us=[a0]:=by
 obtain⟨a0,us,rfl⟩:=bG h;rw[List.length_cons] at h;replace h:=Nat.succ.inj h;cases List.eq_nil_of_length_eq_zero h;exact⟨_,rfl⟩
theorem us2{us:List Value}(h:us.length=2):∃a0 a1,us=[a0,a1]:=by
 obtain⟨a0,us,rfl⟩:=bG h;rw[List.length_cons] at h;replace h:=Nat.succ.inj h;obtain⟨a1,us,rfl⟩:=bG h;rw[List.length_cons] at h;replace h:=Nat.succ.inj h;cases List.eq_nil_of_length_eq_zero h;exact⟨_,_,rfl⟩
theorem us3{us:List Value}(h:us.length=3):∃a0 a1 a2,us=[a0,a1,a2]:=by
 obtain⟨a0,us,rfl⟩:=bG h;rw[List.length_cons] at h;replace h:=Nat.succ.inj h;obtain⟨a1,us,rfl⟩:=bG h;rw[List.length_cons] at h;replace h:=Nat.succ.inj h;obtain⟨a2,us,rfl⟩:=bG h;rw[List.length_cons] at h;replace h:=Nat.succ.inj h;cases List.eq_nil_of_length_eq_zero h;exact⟨_,_,_,rfl⟩
theorem us4{us:List Value}(h:us.length=4):∃a0 a1 a2 a3,us=[a0,a1,a2,a3]:=by
 obtain⟨a0,us,rfl⟩:=bG h;rw[List.length_cons] at h;replace h:=Nat.succ.inj h;obtain⟨a1,us,rfl⟩:=bG h;rw[List.length_cons] at h;replace h:=Nat.succ.inj h;obtain⟨a2,us,rfl⟩:=bG h;rw[List.length_cons] at h;replace h:=Nat.succ.inj h;obtain⟨a3,us,rfl⟩:=bG h;rw[List.length_cons] at h;replace h:=Nat.succ.inj h;cases List.eq_nil_of_length_eq_zero h;exact⟨_,_,_,_,rfl⟩
theorem us5{us:List Value}(h:us.length=5):∃a0 a1 a2 a3 a4,us=[a0,a1,a2,a3,a4]:=by
 obtain⟨a0,us,rfl⟩:=bG h;rw[List.length_cons] at h;replace h:=Nat.succ.inj h;obtain⟨a1,us,rfl⟩:=bG h;rw[List.length_cons] at h;replace h:=Nat.succ.inj h;obtain⟨a2,us,rfl⟩:=bG h;rw[List.length_cons] at h;replace h:=Nat.succ.inj h;obtain⟨a3,us,rfl⟩:=bG h;rw[List.length_cons] at h;replace h:=Nat.succ.inj h;obtain⟨a4,us,rfl⟩:=bG h;rw[List.length_cons] at h;replace h:=Nat.succ.inj h;cases List.eq_nil_of_length_eq_zero h;exact⟨_,_,_,_,_,rfl⟩
theorem us6{us:List Value}(h:us.length=6):∃a0 a1 a2 a3 a4 a5,us=[a0,a1,a2,a3,a4,a5]:=by
 obtain⟨a0,us,rfl⟩:=bG h;rw[List.length_cons] at h;replace h:=Nat.succ.inj h;obtain⟨a1,us,rfl⟩:=bG h;rw[List.length_cons] at h;replace h:=Nat.succ.inj h;obtain⟨a2,us,rfl⟩:=bG h;rw[List.length_cons] at h;replace h:=Nat.succ.inj h;obtain⟨a3,us,rfl⟩:=bG h;rw[List.length_cons] at h;replace h:=Nat.succ.inj h;obtain⟨a4,us,rfl⟩:=bG h;rw[List.length_cons] at h;replace h:=Nat.succ.inj h;obtain⟨a5,us,rfl⟩:=bG h;rw[List.length_cons] at h;replace h:=Nat.succ.inj h;cases List.eq_nil_of_length_eq_zero h;exact⟨_,_,_,_,_,_,rfl⟩
theorem us7{us:List Value}(h:us.length=7):∃a0 a1 a2 a3 a4 a5 a6,us=[a0,a1,a2,a3,a4,a5,a6]:=by
 obtain⟨a0,us,rfl⟩:=bG h;rw[List.length_cons] at h;replace h:=Nat.succ.inj h;obtain⟨a1,us,rfl⟩:=bG h;rw[List.length_cons] at h;replace h:=Nat.succ.inj h;obtain⟨a2,us,rfl⟩:=bG h;rw[List.length_cons] at h;replace h:=Nat.succ.inj h;obtain⟨a3,us,rfl⟩:=bG h;rw[List.length_cons] at h;replace h:=Nat.succ.inj h;obtain⟨a4,us,rfl⟩:=bG h;rw[List.length_cons] at h;replace h:=Nat.succ.inj h;obtain⟨a5,us,rfl⟩:=bG h;rw[List.length_cons] at h;replace h:=Nat.succ.inj h;obtain⟨a6,us,rfl⟩:=bG h;rw[List.length_cons] at h;replace h:=Nat.succ.inj h;cases List.eq_nil_of_length_eq_zero h;exact⟨_,_,_,_,_,_,_,rfl⟩
theorem all_mk{l:PySem.W.OpenLaw}{w:World}{K:PySem.W.Frag}{h:Heap}{mg:Str→Option Value}{fa:Addr}(X:K.In h)(G:h.Ns mainGlobals mg)(hfa:mg "law"=some (.ref fa))
  {f0 f1 f2 f3 f4 f5 f6 f7 f8 f9 f10 f11 f12 f13 f14 f15 f16 f17 f18 f19 f20 f21 f22 f23 f24 f25 f26 f27 f28 f29 f30 f31 f32 f33 f34 f35 f36 f37:Addr}{od0 an0 od1 an1 od2 an2 od3 an3 od4 an4 od5 an5 od6 an6 od7 an7 od8 an8 od9 an9 Q8 Q9 Q_ Ra Rb Rc Rf Rg Rh Ri Rj Rk Rl Rm Rn Ro Rp Rq Rr Rt Ru Rv Rx Ry Rz RA RB RC RD RE RF RG RH RI RJ RK RL RM RN RO RP RQ RT RU RV RW RX RY RZ R1 R3 R4 R5 R6 R7 O8:Option Addr}{sl0 sl1 sl2 sl3 sl4 sl5 sl6 sl7 sl8 sl9 R8 R9 R_ Sa Sb Sd Se Sf Sg Sh Si Sj Sk Sl Sm Sn So Sr Ss Su Sv Sw Sx Sy Sz SA SD SE:Array (Option Value)}{oc0 kV0 dc0 pm0 cd0 ct0 oc1 kV1 dc1 pm1 cd1 ct1 oc2 kV2 dc2 pm2 cd2 ct2 oc3 kV3 dc3 pm3 cd3 ct3 oc4 kV4 dc4 pm4 cd4 ct4 oc5 kV5 dc5 pm5 cd5 ct5 oc6 kV6 dc6 pm6 cd6 ct6 oc7 kV7 dc7 pm7 cd7 ct7 oc8 kV8 dc8 pm8 cd8 ct8 oc9 kV9 dc9 pm9 cd9 ct9 SF SG SH SI O9 SJ SK SM SN SO O_ SQ SR SS SU SW Pa SX SY S8 S9 S_ Pb Ta Tb Tc Td Te Pc Tf Tg Th Ti Tj Pd To Tp Tq Tr Ts Pe Tt Tu Tv Tw Tz Pf TB TC TF TH TJ Pg TK TL TM TN TQ Ph TR TU TV TX TY Pj TZ T1 T2 T3 T4 Pk T5 T6 T7 T8 T9 Pl T_ Ua Ub Uc Ud Pm Ue Ug Uh Ui Uj Pn Uk Ul Um Uo Up Po Uq Ur Us Ut Uu Pp Uv Uw Ux Uy Uz Pq UA UB UC UD UE Pr UG UH UI UJ UK Pt UL UM UN UO UP Pu UQ UR US UT UU Pw UW UX UY UZ U0 Px U1 U3 U4 U5 U6 Py U7 U8 U9 U_ Va Pz Vb Vc Vd Ve Vf PB Vg Vh Vi Vj Vk PD Vl Vm PF PH PJ MK PK:Value}
  (a0:PySem.W.nsIn K mainGlobals "over"=some (some (.ref f0))) (l0:K.lookup f0=some ⟨oc0,od0,.func (PySem.W.fnOf "over" "over" (aU lG) (aO lG) (ao lG) .none kV0 dc0 pm0 an0 cd0 ct0),sl0⟩) (c0:PySem.W.codeIn K cd0 "over"=true) (k0:PySem.W.keepIn K (.ref f0)=true)
  (a1:PySem.W.nsIn K mainGlobals "comes_to"=some (some (.ref f1))) (l1:K.lookup f1=some ⟨oc1,od1,.func (PySem.W.fnOf "comes_to" "comes_to" (aU eh) (aO eh) (ao eh) .none kV1 dc1 pm1 an1 cd1 ct1),sl1⟩) (c1:PySem.W.codeIn K cd1 "comes_to"=true) (k1:PySem.W.keepIn K (.ref f1)=true)
  (a2:PySem.W.nsIn K mainGlobals "times"=some (some (.ref f2))) (l2:K.lookup f2=some ⟨oc2,od2,.func (PySem.W.fnOf "times" "times" (aU gO) (aO gO) (ao gO) .none kV2 dc2 pm2 an2 cd2 ct2),sl2⟩) (c2:PySem.W.codeIn K cd2 "times"=true) (k2:PySem.W.keepIn K (.ref f2)=true)
  (a3:PySem.W.nsIn K mainGlobals "freed"=some (some (.ref f3))) (l3:K.lookup f3=some ⟨oc3,od3,.func (PySem.W.fnOf "freed" "freed" (aU jc) (aO jc) (ao jc) .none kV3 dc3 pm3 an3 cd3 ct3),sl3⟩) (c3:PySem.W.codeIn K cd3 "freed"=true) (k3:PySem.W.keepIn K (.ref f3)=true)
  (a4:PySem.W.nsIn K mainGlobals "first_place"=some (some (.ref f4))) (l4:K.lookup f4=some ⟨oc4,od4,.func (PySem.W.fnOf "first_place" "first_place" (aU dg) (aO dg) (ao dg) .none kV4 dc4 pm4 an4 cd4 ct4),sl4⟩) (c4:PySem.W.codeIn K cd4 "first_place"=true) (k4:PySem.W.keepIn K (.ref f4)=true)
  (a5:PySem.W.nsIn K mainGlobals "eased"=some (some (.ref f5))) (l5:K.lookup f5=some ⟨oc5,od5,.func (PySem.W.fnOf "eased" "eased" (aU jd) (aO jd) (ao jd) .none kV5 dc5 pm5 an5 cd5 ct5),sl5⟩) (c5:PySem.W.codeIn K cd5 "eased"=true) (k5:PySem.W.keepIn K (.ref f5)=true)
  (a6:PySem.W.nsIn K mainGlobals "numbers_at"=some (some (.ref f6))) (l6:K.lookup f6=some ⟨oc6,od6,.func (PySem.W.fnOf "numbers_at" "numbers_at" (aU b_) (aO b_) (ao b_) .none kV6 dc6 pm6 an6 cd6 ct6),sl6⟩) (c6:PySem.W.codeIn K cd6 "numbers_at"=true) (k6:PySem.W.keepIn K (.ref f6)=true)
  (a7:PySem.W.nsIn K mainGlobals "unit"=some (some (.ref f7))) (l7:K.lookup f7=some ⟨oc7,od7,.func (PySem.W.fnOf "unit" "unit" (aU j7) (aO j7) (ao j7) .none kV7 dc7 pm7 an7 cd7 ct7),sl7⟩) (c7:PySem.W.codeIn K cd7 "unit"=true) (k7:PySem.W.keepIn K (.ref f7)=true)
  (a8:PySem.W.nsIn K mainGlobals "held"=some (some (.ref f8))) (l8:K.lookup f8=some ⟨oc8,od8,.func (PySem.W.fnOf "held" "held" (aU mM) (aO mM) (ao mM) .none kV8 dc8 pm8 an8 cd8 ct8),sl8⟩) (c8:PySem.W.codeIn K cd8 "held"=true) (k8:PySem.W.keepIn K (.ref f8)=true)
  (a9:PySem.W.nsIn K mainGlobals "nought_sum"=some (some (.ref f9))) (l9:K.lookup f9=some ⟨oc9,od9,.func (PySem.W.fnOf "nought_sum" "nought_sum" (aU dU) (aO dU) (ao dU) .none kV9 dc9 pm9 an9 cd9 ct9),sl9⟩) (c9:PySem.W.codeIn K cd9 "nought_sum"=true) (k9:PySem.W.keepIn K (.ref f9)=true)
  (a10:PySem.W.nsIn K mainGlobals "nought_sums"=some (some (.ref f10))) (l10:K.lookup f10=some ⟨SF,Q8,.func (PySem.W.fnOf "nought_sums" "nought_sums" (aU b7) (aO b7) (ao b7) .none SG SH SI Q9 O9 SJ),R8⟩) (c10:PySem.W.codeIn K O9 "nought_sums"=true) (k10:PySem.W.keepIn K (.ref f10)=true)
  (a11:PySem.W.nsIn K mainGlobals "parts"=some (some (.ref f11))) (l11:K.lookup f11=some ⟨SK,Q_,.func (PySem.W.fnOf "parts" "parts" (aU ip) (aO ip) (ao ip) .none SM SN SO Ra O_ SQ),R9⟩) (c11:PySem.W.codeIn K O_ "parts"=true) (k11:PySem.W.keepIn K (.ref f11)=true)
  (a12:PySem.W.nsIn K mainGlobals "rows_of"=some (some (.ref f12))) (l12:K.lookup f12=some ⟨SR,Rb,.func (PySem.W.fnOf "rows_of" "rows_of" (aU eX) (aO eX) (ao eX) .none SS SU SW Rc Pa SX),R_⟩) (c12:PySem.W.codeIn K Pa "rows_of"=true) (k12:PySem.W.keepIn K (.ref f12)=true)
  (a13:PySem.W.nsIn K mainGlobals "lines_at"=some (some (.ref f13))) (l13:K.lookup f13=some ⟨SY,Rf,.func (PySem.W.fnOf "lines_at" "lines_at" (aU ei) (aO ei) (ao ei) .none S8 S9 S_ Rg Pb Ta),Sa⟩) (c13:PySem.W.codeIn K Pb "lines_at"=true) (k13:PySem.W.keepIn K (.ref f13)=true)
  (a14:PySem.W.nsIn K mainGlobals "hidden_line"=some (some (.ref f14))) (l14:K.lookup f14=some ⟨Tb,Rh,.func (PySem.W.fnOf "hidden_line" "hidden_line" (aU b8) (aO b8) (ao b8) .none Tc Td Te Ri Pc Tf),Sb⟩) (c14:PySem.W.codeIn K Pc "hidden_line"=true) (k14:PySem.W.keepIn K (.ref f14)=true)
  (a15:PySem.W.nsIn K mainGlobals "opened_by"=some (some (.ref f15))) (l15:K.lookup f15=some ⟨Tg,Rj,.func (PySem.W.fnOf "opened_by" "opened_by" (aU eG) (aO eG) (ao eG) .none Th Ti Tj Rk Pd To),Sd⟩) (c15:PySem.W.codeIn K Pd "opened_by"=true) (k15:PySem.W.keepIn K (.ref f15)=true)
  (a16:PySem.W.nsIn K mainGlobals "opens"=some (some (.ref f16))) (l16:K.lookup f16=some ⟨Tp,Rl,.func (PySem.W.fnOf "opens" "opens" (aU jR) (aO jR) (ao jR) .none Tq Tr Ts Rm Pe Tt),Se⟩) (c16:PySem.W.codeIn K Pe "opens"=true) (k16:PySem.W.keepIn K (.ref f16)=true)
  (a17:PySem.W.nsIn K mainGlobals "added"=some (some (.ref f17))) (l17:K.lookup f17=some ⟨Tu,Rn,.func (PySem.W.fnOf "added" "added" (aU iq) (aO iq) (ao iq) .none Tv Tw Tz Ro Pf TB),Sf⟩) (c17:PySem.W.codeIn K Pf "added"=true) (k17:PySem.W.keepIn K (.ref f17)=true)
  (a18:PySem.W.nsIn K mainGlobals "scaled"=some (some (.ref f18))) (l18:K.lookup f18=some ⟨TC,Rp,.func (PySem.W.fnOf "scaled" "scaled" (aU gP) (aO gP) (ao gP) .none TF TH TJ Rq Pg TK),Sg⟩) (c18:PySem.W.codeIn K Pg "scaled"=true) (k18:PySem.W.keepIn K (.ref f18)=true)
  (a19:PySem.W.nsIn K mainGlobals "filling_of"=some (some (.ref f19))) (l19:K.lookup f19=some ⟨TL,Rr,.func (PySem.W.fnOf "filling_of" "filling_of" (aU cR) (aO cR) (ao cR) .none TM TN TQ Rt Ph TR),Sh⟩) (c19:PySem.W.codeIn K Ph "filling_of"=true) (k19:PySem.W.keepIn K (.ref f19)=true)
  (a20:PySem.W.nsIn K mainGlobals "are_multipliers"=some (some (.ref f20))) (l20:K.lookup f20=some ⟨TU,Ru,.func (PySem.W.fnOf "are_multipliers" "are_multipliers" (aU bh) (aO bh) (ao bh) .none TV TX TY Rv Pj TZ),Si⟩) (c20:PySem.W.codeIn K Pj "are_multipliers"=true) (k20:PySem.W.keepIn K (.ref f20)=true)
  (a21:PySem.W.nsIn K mainGlobals "handed_on"=some (some (.ref f21))) (l21:K.lookup f21=some ⟨T1,Rx,.func (PySem.W.fnOf "handed_on" "handed_on" (aU dj) (aO dj) (ao dj) .none T2 T3 T4 Ry Pk T5),Sj⟩) (c21:PySem.W.codeIn K Pk "handed_on"=true) (k21:PySem.W.keepIn K (.ref f21)=true)
  (a22:PySem.W.nsIn K mainGlobals "_law_cell"=some (some (.ref f22))) (l22:K.lookup f22=some ⟨T6,Rz,.func (PySem.W.fnOf "_law_cell" "_law_cell" (aU dm) (aO dm) (ao dm) .none T7 T8 T9 RA Pl T_),Sk⟩) (c22:PySem.W.codeIn K Pl "_law_cell"=true) (k22:PySem.W.keepIn K (.ref f22)=true)
  (a23:PySem.W.nsIn K mainGlobals "_law_mixed"=some (some (.ref f23))) (l23:K.lookup f23=some ⟨Ua,RB,.func (PySem.W.fnOf "_law_mixed" "_law_mixed" (aU cS) (aO cS) (ao cS) .none Ub Uc Ud RC Pm Ue),Sl⟩) (c23:PySem.W.codeIn K Pm "_law_mixed"=true) (k23:PySem.W.keepIn K (.ref f23)=true)
  (a24:PySem.W.nsIn K mainGlobals "_law_numbers"=some (some (.ref f24))) (l24:K.lookup f24=some ⟨Ug,RD,.func (PySem.W.fnOf "_law_numbers" "_law_numbers" (aU bJ) (aO bJ) (ao bJ) .none Uh Ui Uj RE Pn Uk),Sm⟩) (c24:PySem.W.codeIn K Pn "_law_numbers"=true) (k24:PySem.W.keepIn K (.ref f24)=true)
  (a25:PySem.W.nsIn K mainGlobals "_law_table"=some (some (.ref f25))) (l25:K.lookup f25=some ⟨Ul,RF,.func (PySem.W.fnOf "_law_table" "_law_table" (aU dW) (aO dW) (ao dW) .none Um Uo Up RG Po Uq),Sn⟩) (c25:PySem.W.codeIn K Po "_law_table"=true) (k25:PySem.W.keepIn K (.ref f25)=true)
  (a26:PySem.W.nsIn K mainGlobals "_law_p"=some (some (.ref f26))) (l26:K.lookup f26=some ⟨Ur,RH,.func (PySem.W.fnOf "_law_p" "_law_p" (aU iF) (aO iF) (ao iF) .none Us Ut Uu RI Pp Uv),So⟩) (c26:PySem.W.codeIn K Pp "_law_p"=true) (k26:PySem.W.keepIn K (.ref f26)=true)
  (a27:PySem.W.nsIn K mainGlobals "_law_hands"=some (some (.ref f27))) (l27:K.lookup f27=some ⟨Uw,RJ,.func (PySem.W.fnOf "_law_hands" "_law_hands" (aU cT) (aO cT) (ao cT) .none Ux Uy Uz RK Pq UA),Sr⟩) (c27:PySem.W.codeIn K Pq "_law_hands"=true) (k27:PySem.W.keepIn K (.ref f27)=true)
  (a28:PySem.W.nsIn K mainGlobals "_law_rows"=some (some (.ref f28))) (l28:K.lookup f28=some ⟨UB,RL,.func (PySem.W.fnOf "_law_rows" "_law_rows" (aU dX) (aO dX) (ao dX) .none UC UD UE RM Pr UG),Ss⟩) (c28:PySem.W.codeIn K Pr "_law_rows"=true) (k28:PySem.W.keepIn K (.ref f28)=true)
  (a29:PySem.W.nsIn K mainGlobals "_law_given"=some (some (.ref f29))) (l29:K.lookup f29=some ⟨UH,RN,.func (PySem.W.fnOf "_law_given" "_law_given" (aU cf) (aO cf) (ao cf) .none UI UJ UK RO Pt UL),Su⟩) (c29:PySem.W.codeIn K Pt "_law_given"=true) (k29:PySem.W.keepIn K (.ref f29)=true)
  (a30:PySem.W.nsIn K mainGlobals "_law_whole"=some (some (.ref f30))) (l30:K.lookup f30=some ⟨UM,RP,.func (PySem.W.fnOf "_law_whole" "_law_whole" (aU cU) (aO cU) (ao cU) .none UN UO UP RQ Pu UQ),Sv⟩) (c30:PySem.W.codeIn K Pu "_law_whole"=true) (k30:PySem.W.keepIn K (.ref f30)=true)
  (a31:PySem.W.nsIn K mainGlobals "_law_opening"=some (some (.ref f31))) (l31:K.lookup f31=some ⟨UR,RT,.func (PySem.W.fnOf "_law_opening" "_law_opening" (aU bT) (aO bT) (ao bT) .none US UT UU RU Pw UW),Sw⟩) (c31:PySem.W.codeIn K Pw "_law_opening"=true) (k31:PySem.W.keepIn K (.ref f31)=true)
  (a32:PySem.W.nsIn K mainGlobals "_law_more"=some (some (.ref f32))) (l32:K.lookup f32=some ⟨UX,RV,.func (PySem.W.fnOf "_law_more" "_law_more" (aU dn) (aO dn) (ao dn) .none UY UZ U0 RW Px U1),Sx⟩) (c32:PySem.W.codeIn K Px "_law_more"=true) (k32:PySem.W.keepIn K (.ref f32)=true)
  (a33:PySem.W.nsIn K mainGlobals "_law_spoilt"=some (some (.ref f33))) (l33:K.lookup f33=some ⟨U3,RX,.func (PySem.W.fnOf "_law_spoilt" "_law_spoilt" (aU dq) (aO dq) (ao dq) .none U4 U5 U6 RY Py U7),Sy⟩) (c33:PySem.W.codeIn K Py "_law_spoilt"=true) (k33:PySem.W.keepIn K (.ref f33)=true)
  (a34:PySem.W.nsIn K mainGlobals "_law_refused"=some (some (.ref f34))) (l34:K.lookup f34=some ⟨U8,RZ,.func (PySem.W.fnOf "_law_refused" "_law_refused" (aU cF) (aO cF) (ao cF) .none U9 U_ Va R1 Pz Vb),Sz⟩) (c34:PySem.W.codeIn K Pz "_law_refused"=true) (k34:PySem.W.keepIn K (.ref f34)=true)
  (a35:PySem.W.nsIn K mainGlobals "_law_due"=some (some (.ref f35))) (l35:K.lookup f35=some ⟨Vc,R3,.func (PySem.W.fnOf "_law_due" "_law_due" (aU dF) (aO dF) (ao dF) .none Vd Ve Vf R4 PB Vg),SA⟩) (c35:PySem.W.codeIn K PB "_law_due"=true) (k35:PySem.W.keepIn K (.ref f35)=true)
  (a36:PySem.W.nsIn K mainGlobals "_law_good"=some (some (.ref f36))) (l36:K.lookup f36=some ⟨Vh,R5,.func (PySem.W.fnOf "_law_good" "_law_good" (aU cG) (aO cG) (ao cG) .none Vi Vj Vk R6 PD Vl),SD⟩) (c36:PySem.W.codeIn K PD "_law_good"=true) (k36:PySem.W.keepIn K (.ref f36)=true)
  (a37:PySem.W.nsIn K mainGlobals "law"=some (some (.ref f37))) (l37:K.lookup f37=some ⟨Vm,R7,.func (PySem.W.fnOf "law" "law" (aU n_) (aO n_) (ao n_) .none PF PH PJ O8 MK PK),SE⟩) (c37:PySem.W.codeIn K MK "law"=true) (k37:PySem.W.keepIn K (.ref f37)=true)
  (z0:PySem.W.nsIn K mainGlobals "ValueError"=some none)
  (z1:PySem.W.nsIn K mainGlobals "all"=some none)
  (z2:PySem.W.nsIn K mainGlobals "bool"=some none)
  (z3:PySem.W.nsIn K mainGlobals "enumerate"=some none)
  (z4:PySem.W.nsIn K mainGlobals "int"=some none)
  (z5:PySem.W.nsIn K mainGlobals "isinstance"=some none)
  (z6:PySem.W.nsIn K mainGlobals "len"=some none)
  (z7:PySem.W.nsIn K mainGlobals "list"=some none)
  (z8:PySem.W.nsIn K mainGlobals "range"=some none)
  (z9:PySem.W.nsIn K mainGlobals "sum"=some none)
  (z10:PySem.W.nsIn K mainGlobals "tuple"=some none)
  (z11:PySem.W.nsIn K mainGlobals "zip"=some none)
  {au ah aj av aw ar:Addr}
  (x0:PySem.W.specialIn K (.builtin "object.__class__") "__get__"=some (some (.builtin "getset_descriptor.__get__")))
  (x1:PySem.W.takesIn K (.builtin "object.__class__")=some true)
  (x2:PySem.W.nsIn K mainGlobals "NoFit"=some (some (.ref au)))
  (x3:PySem.W.excIn K au [.type "ValueError",.type "Exception",.type "BaseException",.type "object"] "ValueError.__new__"=true)
  (x4:PySem.W.findIn K (.ref au) "__getattribute__"=some (some (.builtin "BaseException.__getattribute__")))
  (x5:PySem.W.findIn K (.ref au) "__getattr__"=some none)
  (x6:PySem.W.findIn K (.ref au) "__class__"=some (some (.builtin "object.__class__")))
  (x7:PySem.W.mroIn K au (.type "object")=some true)
  (x8:PySem.W.mroIn K au (.type "BaseException")=some true)
  (x9:PySem.W.nsIn K mainGlobals "OpenError"=some (some (.ref ah)))
  (x10:PySem.W.excIn K ah [.type "ValueError",.type "Exception",.type "BaseException",.type "object"] "ValueError.__new__"=true)
  (x11:PySem.W.nsIn K mainGlobals "NoNumber"=some (some (.ref aj)))
  (x12:PySem.W.nsIn K mainGlobals "NoText"=some (some (.ref av)))
  (x13:PySem.W.nsIn K mainGlobals "TooFew"=some (some (.ref aw)))
  (x14:PySem.W.nsIn K mainGlobals "TooMany"=some (some (.ref ar)))
  (x15:PySem.W.mroIn K au (.ref ah)=some true)
  (x16:PySem.W.kitOne K (.ref au) (.ref au)=some true)
  (x17:PySem.W.kitAny K (.ref au) [.ref aj,.ref av,.ref aw,.ref ar]=some false)
  (x18:PySem.W.mroIn K au (.ref au)=some true)
  (x19:PySem.W.kitOne K (.ref au) (.type "ValueError")=some true)
  : ∃fd:FuncData,(∀(s:Shared) (v:Value),BindsTo s fd ⟨[v],[]⟩ [("_law_script",v)])∧∀base:Heap,K.In base→base.Ns mainGlobals mg→aP l.prog w K mg base CX0 7 fa fd ["_law_script"] (spD K o7 1):=by
 have e:=hfa.symm.trans (PySem.W.mg_of X G a37)
 cases e
 have T:Tx K mg:=⟨PySem.W.mg_none_of X G z0,PySem.W.mg_none_of X G z1,PySem.W.mg_none_of X G z2,PySem.W.mg_none_of X G z3,PySem.W.mg_none_of X G z4,PySem.W.mg_none_of X G z5,PySem.W.mg_none_of X G z6,PySem.W.mg_none_of X G z7,PySem.W.mg_none_of X G z8,PySem.W.mg_none_of X G z9,PySem.W.mg_none_of X G z10,PySem.W.mg_none_of X G z11⟩
 have Y:Ec K mg au ah aj av aw ar:=⟨PySem.W.mg_of X G x2,x2,x3,⟨⟨x4,x5,x6,x0,x1,x7,x8⟩,MC x7⟩,PySem.W.mg_of X G x9,x9,x10,PySem.W.mg_of X G x11,x11,PySem.W.mg_of X G x12,x12,PySem.W.mg_of X G x13,x13,PySem.W.mg_of X G x14,x14,Cq x15,x16,x17,Cq x18,x19⟩
 have F0:=bu (st:=lG) l0 c0 k0
 have g0:Gf K mg "over" lG ["p","one","other"] _ _:=⟨F0,F0.binds (ps:=["p","one","other"]) λ_ _ _ _ _ _ us hl=>by obtain⟨_,_,_,rfl⟩:=us3 hl;rfl,PySem.W.mg_of X G a0⟩
 have F1:=bu (st:=eh) l1 c1 k1
 have g1:Gf K mg "comes_to" eh ["p","one","other"] _ _:=⟨F1,F1.binds (ps:=["p","one","other"]) λ_ _ _ _ _ _ us hl=>by obtain⟨_,_,_,rfl⟩:=us3 hl;rfl,PySem.W.mg_of X G a1⟩
 have F2:=bu (st:=gO) l2 c2 k2
 have g2:Gf K mg "times" gO ["p","number","row"] _ _:=⟨F2,F2.binds (ps:=["p","number","row"]) λ_ _ _ _ _ _ us hl=>by obtain⟨_,_,_,rfl⟩:=us3 hl;rfl,PySem.W.mg_of X G a2⟩
 have F3:=bu (st:=jc) l3 c3 k3
 have g3:Gf K mg "freed" jc ["p","row","lead","place"] _ _:=⟨F3,F3.binds (ps:=["p","row","lead","place"]) λ_ _ _ _ _ _ us hl=>by obtain⟨_,_,_,_,rfl⟩:=us4 hl;rfl,PySem.W.mg_of X G a3⟩
 have F4:=bu (st:=dg) l4 c4 k4
 have g4:Gf K mg "first_place" dg ["row","many"] _ _:=⟨F4,F4.binds (ps:=["row","many"]) λ_ _ _ _ _ _ us hl=>by obtain⟨_,_,rfl⟩:=us2 hl;rfl,PySem.W.mg_of X G a4⟩
 have F5:=bu (st:=jd) l5 c5 k5
 have g5:Gf K mg "eased" jd ["p","rows","many"] _ _:=⟨F5,F5.binds (ps:=["p","rows","many"]) λ_ _ _ _ _ _ us hl=>by obtain⟨_,_,_,rfl⟩:=us3 hl;rfl,PySem.W.mg_of X G a5⟩
 have F6:=bu (st:=b_) l6 c6 k6
 have g6:Gf K mg "numbers_at" b_ ["p","lines","place"] _ _:=⟨F6,F6.binds (ps:=["p","lines","place"]) λ_ _ _ _ _ _ us hl=>by obtain⟨_,_,_,rfl⟩:=us3 hl;rfl,PySem.W.mg_of X G a6⟩
 have F7:=bu (st:=j7) l7 c7 k7
 have g7:Gf K mg "unit" j7 ["width","place"] _ _:=⟨F7,F7.binds (ps:=["width","place"]) λ_ _ _ _ _ _ us hl=>by obtain⟨_,_,rfl⟩:=us2 hl;rfl,PySem.W.mg_of X G a7⟩
 have F8:=bu (st:=mM) l8 c8 k8
 have g8:Gf K mg "held" mM ["p","width","lines","wished"] _ _:=⟨F8,F8.binds (ps:=["p","width","lines","wished"]) λ_ _ _ _ _ _ us hl=>by obtain⟨_,_,_,_,rfl⟩:=us4 hl;rfl,PySem.W.mg_of X G a8⟩
 have F9:=bu (st:=dU) l9 c9 k9
 have g9:Gf K mg "nought_sum" dU ["p","leads","many","free"] _ _:=⟨F9,F9.binds (ps:=["p","leads","many","free"]) λ_ _ _ _ _ _ us hl=>by obtain⟨_,_,_,_,rfl⟩:=us4 hl;rfl,PySem.W.mg_of X G a9⟩
 have F10:=bu (st:=b7) l10 c10 k10
 have g10:Gf K mg "nought_sums" b7 ["p","width","lines"] _ _:=⟨F10,F10.binds (ps:=["p","width","lines"]) λ_ _ _ _ _ _ us hl=>by obtain⟨_,_,_,rfl⟩:=us3 hl;rfl,PySem.W.mg_of X G a10⟩
 have F11:=bu (st:=ip) l11 c11 k11
 have g11:Gf K mg "parts" ip ["table","filling"] _ _:=⟨F11,F11.binds (ps:=["table","filling"]) λ_ _ _ _ _ _ us hl=>by obtain⟨_,_,rfl⟩:=us2 hl;rfl,PySem.W.mg_of X G a11⟩
 have F12:=bu (st:=eX) l12 c12 k12
 have g12:Gf K mg "rows_of" eX ["table","hands"] _ _:=⟨F12,F12.binds (ps:=["table","hands"]) λ_ _ _ _ _ _ us hl=>by obtain⟨_,_,rfl⟩:=us2 hl;rfl,PySem.W.mg_of X G a12⟩
 have F13:=bu (st:=ei) l13 c13 k13
 have g13:Gf K mg "lines_at" ei ["table","numbers"] _ _:=⟨F13,F13.binds (ps:=["table","numbers"]) λ_ _ _ _ _ _ us hl=>by obtain⟨_,_,rfl⟩:=us2 hl;rfl,PySem.W.mg_of X G a13⟩
 have F14:=bu (st:=b8) l14 c14 k14
 have g14:Gf K mg "hidden_line" b8 ["wide"] _ _:=⟨F14,F14.binds (ps:=["wide"]) λ_ _ _ _ _ _ us hl=>by obtain⟨_,rfl⟩:=us1 hl;rfl,PySem.W.mg_of X G a14⟩
 have F15:=bu (st:=eG) l15 c15 k15
 have g15:Gf K mg "opened_by" eG ["table","numbers"] _ _:=⟨F15,F15.binds (ps:=["table","numbers"]) λ_ _ _ _ _ _ us hl=>by obtain⟨_,_,rfl⟩:=us2 hl;rfl,PySem.W.mg_of X G a15⟩
 have F16:=bu (st:=jR) l16 c16 k16
 have g16:Gf K mg "opens" jR ["table","hands"] _ _:=⟨F16,F16.binds (ps:=["table","hands"]) λ_ _ _ _ _ _ us hl=>by obtain⟨_,_,rfl⟩:=us2 hl;rfl,PySem.W.mg_of X G a16⟩
 have F17:=bu (st:=iq) l17 c17 k17
 have g17:Gf K mg "added" iq ["p","one","other"] _ _:=⟨F17,F17.binds (ps:=["p","one","other"]) λ_ _ _ _ _ _ us hl=>by obtain⟨_,_,_,rfl⟩:=us3 hl;rfl,PySem.W.mg_of X G a17⟩
 have F18:=bu (st:=gP) l18 c18 k18
 have g18:Gf K mg "scaled" gP ["p","one","number"] _ _:=⟨F18,F18.binds (ps:=["p","one","number"]) λ_ _ _ _ _ _ us hl=>by obtain⟨_,_,_,rfl⟩:=us3 hl;rfl,PySem.W.mg_of X G a18⟩
 have F19:=bu (st:=cR) l19 c19 k19
 have g19:Gf K mg "filling_of" cR ["number","chances"] _ _:=⟨F19,F19.binds (ps:=["number","chances"]) λ_ _ _ _ _ _ us hl=>by obtain⟨_,_,rfl⟩:=us2 hl;rfl,PySem.W.mg_of X G a19⟩
 have F20:=bu (st:=bh) l20 c20 k20
 have g20:Gf K mg "are_multipliers" bh ["table","hands","multipliers"] _ _:=⟨F20,F20.binds (ps:=["table","hands","multipliers"]) λ_ _ _ _ _ _ us hl=>by obtain⟨_,_,_,rfl⟩:=us3 hl;rfl,PySem.W.mg_of X G a20⟩
 have F21:=bu (st:=dj) l21 c21 k21
 have g21:Gf K mg "handed_on" dj ["table","hands","multipliers","some","other","chances"] _ _:=⟨F21,F21.binds (ps:=["table","hands","multipliers","some","other","chances"]) λ_ _ _ _ _ _ us hl=>by obtain⟨_,_,_,_,_,_,rfl⟩:=us6 hl;rfl,PySem.W.mg_of X G a21⟩
 have F22:=bu (st:=dm) l22 c22 k22
 have g22:Gf K mg "_law_cell" dm ["_law_script","_law_k"] _ _:=⟨F22,F22.binds (ps:=["_law_script","_law_k"]) λ_ _ _ _ _ _ us hl=>by obtain⟨_,_,rfl⟩:=us2 hl;rfl,PySem.W.mg_of X G a22⟩
 have F23:=bu (st:=cS) l23 c23 k23
 have g23:Gf K mg "_law_mixed" cS ["_law_cell_here","_law_k"] _ _:=⟨F23,F23.binds (ps:=["_law_cell_here","_law_k"]) λ_ _ _ _ _ _ us hl=>by obtain⟨_,_,rfl⟩:=us2 hl;rfl,PySem.W.mg_of X G a23⟩
 have F24:=bu (st:=bJ) l24 c24 k24
 have g24:Gf K mg "_law_numbers" bJ ["_law_cell_here","_law_p_here","_law_count","_law_by_digits"] _ _:=⟨F24,F24.binds (ps:=["_law_cell_here","_law_p_here","_law_count","_law_by_digits"]) λ_ _ _ _ _ _ us hl=>by obtain⟨_,_,_,_,rfl⟩:=us4 hl;rfl,PySem.W.mg_of X G a24⟩
 have F25:=bu (st:=dW) l25 c25 k25
 have g25:Gf K mg "_law_table" dW ["_law_script","_law_at","_law_p_here"] _ _:=⟨F25,F25.binds (ps:=["_law_script","_law_at","_law_p_here"]) λ_ _ _ _ _ _ us hl=>by obtain⟨_,_,_,rfl⟩:=us3 hl;rfl,PySem.W.mg_of X G a25⟩
 have F26:=bu (st:=iF) l26 c26 k26
 have g26:Gf K mg "_law_p" iF ["_law_cell_here"] _ _:=⟨F26,F26.binds (ps:=["_law_cell_here"]) λ_ _ _ _ _ _ us hl=>by obtain⟨_,rfl⟩:=us1 hl;rfl,PySem.W.mg_of X G a26⟩
 have F27:=bu (st:=cT) l27 c27 k27
 have g27:Gf K mg "_law_hands" cT ["_law_cell_here"] _ _:=⟨F27,F27.binds (ps:=["_law_cell_here"]) λ_ _ _ _ _ _ us hl=>by obtain⟨_,rfl⟩:=us1 hl;rfl,PySem.W.mg_of X G a27⟩
 have F28:=bu (st:=dX) l28 c28 k28
 have g28:Gf K mg "_law_rows" dX ["_law_table_here","_law_hands_here"] _ _:=⟨F28,F28.binds (ps:=["_law_table_here","_law_hands_here"]) λ_ _ _ _ _ _ us hl=>by obtain⟨_,_,rfl⟩:=us2 hl;rfl,PySem.W.mg_of X G a28⟩
 have F29:=bu (st:=cf) l29 c29 k29
 have g29:Gf K mg "_law_given" cf ["_law_table_here","_law_filling"] _ _:=⟨F29,F29.binds (ps:=["_law_table_here","_law_filling"]) λ_ _ _ _ _ _ us hl=>by obtain⟨_,_,rfl⟩:=us2 hl;rfl,PySem.W.mg_of X G a29⟩
 have F30:=bu (st:=cU) l30 c30 k30
 have g30:Gf K mg "_law_whole" cU ["_law_number","_law_p_here"] _ _:=⟨F30,F30.binds (ps:=["_law_number","_law_p_here"]) λ_ _ _ _ _ _ us hl=>by obtain⟨_,_,rfl⟩:=us2 hl;rfl,PySem.W.mg_of X G a30⟩
 have F31:=bu (st:=bT) l31 c31 k31
 have g31:Gf K mg "_law_opening" bT ["_law_table_here","_law_numbers_here","_law_multipliers"] _ _:=⟨F31,F31.binds (ps:=["_law_table_here","_law_numbers_here","_law_multipliers"]) λ_ _ _ _ _ _ us hl=>by obtain⟨_,_,_,rfl⟩:=us3 hl;rfl,PySem.W.mg_of X G a31⟩
 have F32:=bu (st:=dn) l32 c32 k32
 have g32:Gf K mg "_law_more" dn ["_law_table_here","_law_numbers_here","_law_multipliers","_law_cell_here"] _ _:=⟨F32,F32.binds (ps:=["_law_table_here","_law_numbers_here","_law_multipliers","_law_cell_here"]) λ_ _ _ _ _ _ us hl=>by obtain⟨_,_,_,_,rfl⟩:=us4 hl;rfl,PySem.W.mg_of X G a32⟩
 have F33:=bu (st:=dq) l33 c33 k33
 have g33:Gf K mg "_law_spoilt" dq ["_law_multipliers","_law_p_here","_law_way","_law_cell_here"] _ _:=⟨F33,F33.binds (ps:=["_law_multipliers","_law_p_here","_law_way","_law_cell_here"]) λ_ _ _ _ _ _ us hl=>by obtain⟨_,_,_,_,rfl⟩:=us4 hl;rfl,PySem.W.mg_of X G a33⟩
 have F34:=bu (st:=cF) l34 c34 k34
 have g34:Gf K mg "_law_refused" cF ["_law_table_here","_law_hands_here","_law_multipliers","_law_some","_law_other","_law_chances","_law_base"] _ _:=⟨F34,F34.binds (ps:=["_law_table_here","_law_hands_here","_law_multipliers","_law_some","_law_other","_law_chances","_law_base"]) λ_ _ _ _ _ _ us hl=>by obtain⟨_,_,_,_,_,_,_,rfl⟩:=us7 hl;rfl,PySem.W.mg_of X G a34⟩
 have F35:=bu (st:=dF) l35 c35 k35
 have g35:Gf K mg "_law_due" dF ["_law_table_here","_law_other","_law_multipliers","_law_some","_law_chances"] _ _:=⟨F35,F35.binds (ps:=["_law_table_here","_law_other","_law_multipliers","_law_some","_law_chances"]) λ_ _ _ _ _ _ us hl=>by obtain⟨_,_,_,_,_,rfl⟩:=us5 hl;rfl,PySem.W.mg_of X G a35⟩
 have F36:=bu (st:=cG) l36 c36 k36
 have g36:Gf K mg "_law_good" cG ["_law_script","_law_table_here","_law_hands_here","_law_other","_law_filling"] _ _:=⟨F36,F36.binds (ps:=["_law_script","_law_table_here","_law_hands_here","_law_other","_law_filling"]) λ_ _ _ _ _ _ us hl=>by obtain⟨_,_,_,_,_,rfl⟩:=us5 hl;rfl,PySem.W.mg_of X G a36⟩
 have F37:=bu (st:=n_) l37 c37 k37
 have g37:Gf K mg "law" n_ ["_law_script"] _ _:=⟨F37,F37.binds (ps:=["_law_script"]) λ_ _ _ _ _ _ us hl=>by obtain⟨_,rfl⟩:=us1 hl;rfl,PySem.W.mg_of X G a37⟩
 refine⟨PySem.W.fnOf "law" "law" (aU n_) (aO n_) (ao n_) .none PF PH PJ O8 MK PK,λs v => .of_eq rfl,λbase _ _=>?_⟩
 have oV0:=GY (P:=l.prog) (w:=w) (base:=base) T Y g0
 have oV1:=yb (P:=l.prog) (w:=w) (base:=base) T Y g1
 have oV2:=Ei (P:=l.prog) (w:=w) (base:=base) T Y g2
 have oV3:=Ej (P:=l.prog) (w:=w) (base:=base) T Y g3
 have oV4:=sh (P:=l.prog) (w:=w) (base:=base) T Y g4
 have oV5:=Ek (P:=l.prog) (w:=w) (base:=base) T Y g5 g3 oV3 g4 oV4 g0 oV0 g2 oV2
 have oV6:=uE (P:=l.prog) (w:=w) (base:=base) T Y g6
 have oD7:=G0 (P:=l.prog) (w:=w) (base:=base) T Y g7
 have oV7:=G1 (P:=l.prog) (w:=w) (base:=base) T Y g7
 have oK8:=G2 (P:=l.prog) (w:=w) (base:=base) T Y g8 g6 oV6 g7 oV7 g5 oV5 g0 oV0 g2 oV2
 have oV9:=uJ (P:=l.prog) (w:=w) (base:=base) T Y g9 g7 oD7
 have Vn:=si (P:=l.prog) (w:=w) (base:=base) T Y g10 g6 oV6 g5 oV5 g9 oV9
 have PL:=El (P:=l.prog) (w:=w) (base:=base) T Y g11 g1 oV1
 have PM:=zR (P:=l.prog) (w:=w) (base:=base) T Y g12
 have PN:=yd (P:=l.prog) (w:=w) (base:=base) T Y g13
 have PQ:=sj (P:=l.prog) (w:=w) (base:=base) T Y g14
 have Vo:=vC (P:=l.prog) (w:=w) (base:=base) T Y g15 g13 PN g14 PQ g8 oK8
 have Vp:=Em (P:=l.prog) (w:=w) (base:=base) T Y g16 g12 PM g15 Vo
 have PR:=En (P:=l.prog) (w:=w) (base:=base) T Y g17
 have PU:=Br (P:=l.prog) (w:=w) (base:=base) T Y g18 g2 oV2
 have PV:=uL (P:=l.prog) (w:=w) (base:=base) T Y g19
 have PX:=nW (P:=l.prog) (w:=w) (base:=base) T Y g20 g12 PM g13 PN g6 oV6 g1 oV1 g14 PQ
 have Vq:=vE (P:=l.prog) (w:=w) (base:=base) T Y g21 g20 PX g19 PV g11 PL g18 PU g17 PR
 have Vr:=vF (P:=l.prog) (w:=w) (base:=base) T Y g21 g19 PV g11 PL g18 PU g17 PR g20 PX
 have ML:=vG (P:=l.prog) (w:=w) (base:=base) T Y g22
 have PY:=uO (P:=l.prog) (w:=w) (base:=base) T Y g23
 have Vs:=rh (P:=l.prog) (w:=w) (base:=base) T Y g24 g23 PY
 have PZ:=rj (P:=l.prog) (w:=w) (base:=base) T Y g24 g23 PY
 have Vt:=uP (P:=l.prog) (w:=w) (base:=base) T Y g25 g22 ML g24 Vs
 have Vu:=Bs (P:=l.prog) (w:=w) (base:=base) T Y g26
 have Vv:=uQ (P:=l.prog) (w:=w) (base:=base) T Y g27
 have Vw:=vI (P:=l.prog) (w:=w) (base:=base) T Y g28
 have P0:=uR (P:=l.prog) (w:=w) (base:=base) T Y g29
 have P1:=uS (P:=l.prog) (w:=w) (base:=base) T Y g30
 have Vx:=rk (P:=l.prog) (w:=w) (base:=base) T Y g31 g30 P1
 have Vy:=vL (P:=l.prog) (w:=w) (base:=base) T Y g32 g10 Vn
 have Vz:=sm (P:=l.prog) (w:=w) (base:=base) T Y g33
 have VA:=rq (P:=l.prog) (w:=w) (base:=base) T Y g34 g21 Vr
 have VB:=yg (P:=l.prog) (w:=w) (base:=base) T Y g35 g29 P0
 have VC:=vM (P:=l.prog) (w:=w) (base:=base) T Y g36 g28 Vw g16 Vp g22 ML g29 P0 g24 PZ g34 VA g31 Vx g32 Vy g21 Vq g35 VB g30 P1 g33 Vz
 have VD:=JP (P:=l.prog) (w:=w) (base:=base) T Y g37 g22 ML g26 Vu g25 Vt g24 PZ g27 Vv g36 VC
 exact VD
end
theorem walk{l:PySem.W.OpenLaw}{q:Program}{loose:List Str}{XP:(Str→Option Value)→Heap→Prop}{YP:World→Heap→Prop}{d:DefRec}{K:Params→PySem.W.Frag}(hn:l.most=some 63)(hdf:d.params.defaults=[])
  (Ml:∀ns:List Int,ns.length≤63→∃μ',o7 [.val (.lst (ns.map T.int))] [] = .ok (.val (.bl true)) μ')
  (hY:∀(w:World) (h:Heap),YP w h→(K w.params).In h)
  (F:∀(w:World) (mg:Str→Option Value) (fa:Addr) (h:Heap),(K w.params).In h→h.Ns mainGlobals mg→mg d.name=some (.ref fa) →
   ∃fd:FuncData,(∀(s:Shared) (u:Value),BindsTo s fd ⟨[u],[]⟩ [("_law_script",u)])∧∀base:Heap,(K w.params).In base→base.Ns mainGlobals mg→aP l.prog w (K w.params) mg base CX0 7 fa fd ["_law_script"] (spD (K w.params) o7 1)) :
  PySem.W.WalkO q loose XP YP l.row.toRowW d [] (λf vs=>PySem.call f vs) :=
 L2.Iv (n:=63) (k:=7) (x:="_law_script") (CX:=λ_=>CX0) (sp:=λw=>spD (K w.params) o7 1) hn (by decide) hdf ⟨rfl,by decide,by decide⟩ hY F (λw H a ns hl hO hS=>Mk Ml hl hS) λ_ _ _ _ _ z=>z
end Fw.k73
end
namespace Fw
open PySem Fw Fw.H
theorem Nx(a b:DS)(e:Slots)(μ:ag):aA a b e μ=(a e μ).seq b:=rfl
theorem Ny(i:Nat)(d:D)(e:Slots)(μ:ag):aE i d e μ=(d e μ).toS e λx μ1 => .nx (e.set i (some x)) μ1:=rfl
theorem Nz(d:D)(e:Slots)(μ:ag):aS d e μ=(d e μ).toS e λx μ1 => .rt x μ1:=rfl
theorem P2(c:D)(a b:DS)(e:Slots)(μ:ag):sIf c a b e μ=(c e μ).toS e λx μ1=>(R.lift (asB x) μ1).toS e λk μ1=>if k=true then a e μ1 else b e μ1:=rfl
theorem NA(e:Slots)(μ:ag):dA e μ = .nx e μ:=rfl
theorem P4(f:T→Option T)(a:D)(e:Slots)(μ:ag):dUn f a e μ=(a e μ).bind λx μ1=>R.lift (ap1 f (rd μ1 x)) μ1:=rfl
theorem NB(f:T→T→Option T)(a b:D)(e:Slots)(μ:ag):ai f a b e μ=(a e μ).bind λx μ1=>(b e μ1).bind λy μ2=>R.lift (ap2 f (rd μ2 x) (rd μ2 y)) μ2:=rfl
theorem NC(i:Nat)(e:Slots)(μ:ag):ae i e μ=R.lift (slot e i) μ:=rfl
theorem Qu(t:T)(e:Slots)(μ:ag):dC t e μ = .ok (.val t) μ:=rfl
theorem MM(f:FN)(ds:List D)(e:Slots)(μ:ag):aB f ds e μ=(eT ds e μ).bind λxs μ1=>f xs μ1:=rfl
theorem JQ(d:D)(ds:List D)(e:Slots)(μ:ag):eT (d::ds) e μ=(d e μ).bind λx μ1=>(eT ds e μ1).bind λxs μ2 => .ok (x::xs) μ2:=rfl
theorem KJ(e:Slots)(μ:ag):eT [] e μ = .ok [] μ:=rfl
theorem ND(ds:List D)(e:Slots)(μ:ag):lX ds e μ=(eT ds e μ).bind λxs μ1=>(eJ xs μ1).bind λts μ2 => .ok (.val (.tup ts)) μ2:=rfl
theorem NF(ds:List D)(e:Slots)(μ:ag):eY ds e μ=(eT ds e μ).bind λxs μ1=>(eJ xs μ1).bind λts μ2 => .ok (.val (.lst ts)) μ2:=rfl
theorem NG(a b:D)(e:Slots)(μ:ag):aF a b e μ=(a e μ).bind λx μ1=>(b e μ1).bind λy μ2=>R.lift ((rd μ2 y).bind λu=>j5 μ2 x u) μ2:=rfl
theorem NH(a:D)(e:Slots)(μ:ag):fz a e μ=(a e μ).bind λx μ1=>R.lift ((rY μ1 x).map SV.val) μ1:=rfl
theorem P5(f:FN)(xs:List SV)(μ:ag):cal f xs μ=(f xs μ).calm:=rfl
theorem KL(x:Option SV)(e:Slots)(i:Nat):slot (x::e) (i+1)=slot e i:=rfl
theorem KN(x:SV)(e:Slots):slot (some x::e) 0=some x:=rfl
theorem MN{α:Type}(a:α)(e:Slots)(μ:ag)(f:α→ag→RS):(R.ok a μ).toS e f=f a μ:=rfl
theorem P6(μ:ag)(t:T):rd μ (.val t)=some t:=rfl
theorem MO(f:T→Option T)(t:T):ap1 f (some t)=(f t).map SV.val:=rfl
theorem MP(f:T→T→Option T)(t u:T):ap2 f (some t) (some u)=(f t u).map SV.val:=rfl
theorem P7(b:Bool):asB (.val (.bl b))=some b:=rfl
theorem NI(μ:ag)(t:T):frz (.val t) μ = .ok t μ:=rfl
theorem MQ(μ:ag):eJ [] μ = .ok [] μ:=rfl
theorem KO(x:SV)(xs:List SV)(μ:ag):eJ (x::xs) μ=(frz x μ).bind λt μ1=>(eJ xs μ1).bind λts μ2 => .ok (t::ts) μ2:=rfl
theorem KP(e:Slots)(μ:ag)(f:Slots→ag→RS):(RS.nx e μ).seq f=f e μ:=rfl
theorem HV{α:Type}(a:α)(μ:ag):R.lift (some a) μ = .ok a μ:=rfl
theorem KQ{α β:Type}(a:α)(μ:ag)(f:α→ag→R β):(R.ok a μ).bind f=f a μ:=rfl
theorem KR{α:Type}(a:α)(μ:ag):(R.ok a μ).calm = .ok a μ:=rfl
theorem NJ(a b:D)(e:Slots)(μ:ag):w_ a b e μ=(a e μ).bind λx μ1=>(R.lift (asB x) μ1).bind λk μ1=>if k=true then b e μ1 else .ok (.val (.bl false)) μ1:=rfl
theorem P8(a b:D)(e:Slots)(μ:ag):dOr a b e μ=(a e μ).bind λx μ1=>(R.lift (asB x) μ1).bind λk μ1=>if k=true then .ok (.val (.bl true)) μ1 else b e μ1:=rfl
theorem NK(a:D)(e:Slots)(μ:ag):kJ a e μ=(a e μ).bind λx μ1=>(R.lift (asB x) μ1).bind λk μ1 => .ok (.val (.bl (!k))) μ1:=rfl
theorem NL(d:D)(e:Slots)(μ:ag):h7 d e μ=(d e μ).bind λx μ1=>(R.lift ((rd μ1 x).bind bw) μ1).bind λts μ1 => .ok ⟨ts,λμ'=>rd μ' x=rd μ1 x⟩ μ1:=rfl
theorem NM(it:DI)(b:BD)(body:DS)(e:Slots)(μ:ag):eL it b body e μ=(it e μ).toS e λW μ1=>forL W.same b body W.items e μ1:=rfl
theorem NN(e:Slots):ini [] e=[]:=rfl
theorem MR(mp:List (Option Nat))(e:Slots):ini (none::mp) e=none::ini mp e:=rfl
theorem MS(j:Nat)(mp:List (Option Nat))(e:Slots):ini (some j::mp) e=slot e j::ini mp e:=rfl
theorem MT(i:Nat)(t:T)(e:Slots):aN i t e=some (e.set i (some (.val t))):=rfl
end Fw
local macro_rules
 | `(tactic| simp_all! only [$ls,*]) => do
  let mut xs:Array (Lean.TSyntax `Lean.Parser.Tactic.simpLemma):=#[]
  for n in "Nx Ny Nz P2 NA P4 NB NC Qu MM JQ KJ ND NF NG NH P5 KL KN MN P6 MO MP P7 NI MQ KO KP HV KQ KR NJ P8 NK NL NM NN MR MS MT".splitOn " " do xs := xs.push (← `(Lean.Parser.Tactic.simpLemma| $(Lean.mkIdent (`Fw ++ n.toName)):term))
  `(tactic| try dsimp only [$(xs),*, Nat.reduceAdd, Nat.reduceSub, List.set_cons_succ, List.set_cons_zero, $ls,*])
namespace Fw.E
open PySem Fw Fw.H
structure Rw(p:Int)(L:Nat)(r:List Int):Prop where
 len:r.length=L
 lo:∀x∈r,0≤x
 hi:∀x∈r,x<p
def g(r:List Int)(k:Nat):Int:=r.getD k 0
theorem iZ(x:Int)(r:List Int):g (x::r) 0=x:=by simp[g]
theorem e_(x:Int)(r:List Int)(k:Nat):g (x::r) (k+1)=g r k:=by simp[g]
theorem ym(r:List Int)(k:Nat)(h:k<r.length):g r k=r[k]:=by simp[g,h]
theorem Rw.g0{p:Int}{L:Nat}{r:List Int}(h:Rw p L r)(hp:0<p)(k:Nat):0≤g r k∧g r k<p:=by
 by_cases hk:k<r.length
 ·rw[ym r k hk];exact⟨h.lo _ (List.getElem_mem hk),h.hi _ (List.getElem_mem hk)⟩
 ·have:g r k=0:=by simp[g,Nat.le_of_not_lt hk]
  lia
def dot:List Int→List Int→Int
 | x::xs,y::ys=>x*y+dot xs ys
 | _,_=>0
@[simp] theorem Qv(ys:List Int):dot [] ys=0:=by cases ys<;>rfl
@[simp] theorem G7(ys:List Int):dot ys []=0:=by cases ys<;>rfl
@[simp] theorem ck(x y:Int)(xs ys:List Int):dot (x::xs) (y::ys)=x*y+dot xs ys:=rfl
theorem m7(xs ys:List Int):dot xs ys=dot ys xs:=by
 induction xs generalizing ys with
 | nil=>cases ys<;>rfl
 | cons x xs ih=>cases ys with
  | nil=>rfl
  | cons y ys=>simp[ih,Int.mul_comm]
theorem Bt(c1 c2 r1 r2:List Int)(h:c1.length=r1.length):dot (c1++c2) (r1++r2)=dot c1 r1+dot c2 r2:=by
 induction c1 generalizing r1 with
 | nil=>cases r1 with
  | nil=>simp
  | cons x r1=>simp at h
 | cons x c1 ih=>cases r1 with
  | nil=>simp at h
  | cons y r1=>simp[ih r1 (by simpa using h)];lia
theorem md(x p:Int):∃t,x%p=x-p*t:=⟨x / p,Int.emod_def x p⟩
def sub(p n:Int)(row lead:List Int):List Int:=(row.zip lead).map λq=>(q.1-n*q.2)%p
theorem sO(p n:Int):∀(row lead c:List Int),row.length=lead.length→∃t,dot c (sub p n row lead)=dot c row-n*dot c lead+p*t
 | [],lead,c,h=>by cases lead with
  | nil=>exact⟨0,by simp[sub]⟩
  | cons x l=>simp at h
 | e::row,[],c,h=>by simp at h
 | e::row,o::lead,[],h=>⟨0,by simp[sub]⟩
 | e::row,o::lead,c0::c,h=>by
  obtain⟨s,hs⟩:=sO p n row lead c (by simpa using h)
  obtain⟨t,ht⟩:=md (e-n*o) p
  refine⟨s-c0*t,?_⟩
  have e1:sub p n (e::row) (o::lead)=(e-n*o)%p::sub p n row lead:=rfl
  rw[e1,ck,ck,ck,hs,ht]
  grind
theorem G8(p n:Int):∀(row lead:List Int) (k:Nat),row.length=lead.length→g (sub p n row lead) k=(g row k-n*g lead k)%p
 | [],lead,k,h=>by cases lead with
  | nil=>simp[sub,g]
  | cons x l=>simp at h
 | e::row,[],k,h=>by simp at h
 | e::row,o::lead,0,h=>by simp[sub,g]
 | e::row,o::lead,k+1,h=>by
  have e1:sub p n (e::row) (o::lead)=(e-n*o)%p::sub p n row lead:=rfl
  rw[e1,e_,e_,e_]
  exact G8 p n row lead k (by simpa using h)
theorem yn{p:Int}{L:Nat}{row lead:List Int}(hp:0<p)(n:Int)(h1:row.length=L)(h2:lead.length=L):Rw p L (sub p n row lead):=by
 refine⟨by simp[sub,h1,h2],λx hx=>?_,λx hx=>?_⟩
 ·obtain⟨q,_,rfl⟩:=List.mem_map.mp hx
  exact Int.emod_nonneg _ (by lia)
 ·obtain⟨q,_,rfl⟩:=List.mem_map.mp hx
  exact Int.emod_lt_of_pos _ hp
def fr(p:Int)(row lead:List Int)(q:Nat):List Int:=if g row q=0 then row else sub p (g row q) row lead
theorem G9{p:Int}{L:Nat}{row lead:List Int}(hp:0<p)(q:Nat)(h1:Rw p L row)(h2:Rw p L lead):Rw p L (fr p row lead q):=by
 unfold fr
 split
 ·exact h1
 ·exact yn hp _ h1.len h2.len
theorem P9{p:Int}{L:Nat}{row lead:List Int}(hp:0<p)(q k:Nat)(h1:Rw p L row)(h2:Rw p L lead):g (fr p row lead q) k=(g row k-g row q*g lead k)%p:=by
 unfold fr
 split
 ·rename_i h
  have:=h1.g0 hp k
  rw[h]
  simp
  rw[Int.emod_eq_of_lt this.1 this.2]
 ·exact G8 p _ row lead k (by rw[h1.len,h2.len])
def Z(p:Int)(c r:List Int):Prop:=p ∣ dot c r
theorem P_{p:Int}{L:Nat}{row lead c:List Int}(q:Nat)(h1:Rw p L row)(h2:Rw p L lead)(hz:Z p c lead):Z p c (fr p row lead q)↔Z p c row:=by
 unfold fr
 split
 ·exact Iff.rfl
 ·obtain⟨t,ht⟩:=sO p (g row q) row lead c (by rw[h1.len,h2.len])
  obtain⟨s,hs⟩:=hz
  unfold Z
  rw[ht,hs]
  constructor
  ·rintro⟨u,hu⟩;exact⟨u+g row q*s-t,by grind⟩
  ·rintro⟨u,hu⟩;exact⟨u-g row q*s+t,by grind⟩
def tm(p n:Int)(row:List Int):List Int:=row.map λe=>n*e%p
theorem uV(p n:Int):∀(row c:List Int),∃t,dot c (tm p n row)=n*dot c row+p*t
 | [],c=>⟨0,by simp[tm]⟩
 | e::row,[]=>⟨0,by simp[tm]⟩
 | e::row,c0::c=>by
  obtain⟨s,hs⟩:=uV p n row c
  obtain⟨t,ht⟩:=md (n*e) p
  refine⟨s-c0*t,?_⟩
  have e1:tm p n (e::row)=n*e%p::tm p n row:=rfl
  rw[e1,ck,ck,hs,ht]
  grind
theorem MU(p n:Int)(row:List Int)(k:Nat):g (tm p n row) k=n*g row k%p:=by
 induction row generalizing k with
 | nil=>simp[tm,g]
 | cons e row ih =>
  have e1:tm p n (e::row)=n*e%p::tm p n row:=rfl
  cases k with
  | zero=>rw[e1,iZ,iZ]
  | succ k=>rw[e1,e_,e_];exact ih k
theorem Ct{p:Int}{L:Nat}{row:List Int}(hp:0<p)(n:Int)(h:row.length=L):Rw p L (tm p n row):=by
 refine⟨by simp[tm,h],λx hx=>?_,λx hx=>?_⟩
 ·obtain⟨q,_,rfl⟩:=List.mem_map.mp hx
  exact Int.emod_nonneg _ (by lia)
 ·obtain⟨q,_,rfl⟩:=List.mem_map.mp hx
  exact Int.emod_lt_of_pos _ hp
def Inv(p n a:Int):Prop:=n*a%p=1%p
theorem VE{p n a:Int}(row c:List Int)(hi:Inv p n a):Z p c (tm p n row)↔Z p c row:=by
 obtain⟨t,ht⟩:=uV p n row c
 unfold Z
 rw[ht]
 constructor
 ·rintro⟨u,hu⟩
  obtain⟨m1,e1⟩:=md (n*a) p
  obtain⟨m2,e2⟩:=md 1 p
  have e3:n*a-p*m1=1-p*m2:=by rw[← e1,← e2];exact hi
  exact⟨a*(u-t)+(m2-m1)*dot c row,by grind⟩
 ·rintro⟨u,hu⟩;exact⟨n*u+t,by grind⟩
theorem Qa{p:Int}(h:lQ p)(r:Int)(h1:1<r)(h2:r<p):p%r≠0:=by
 have hb:=h.pos
 have key:∀p∈([2,3,5,7,11,13,17,19,23,29,31,37,41,43,47,53,59,61,67,71,73,79,83,89,97]:List Int),∀r:Nat,r<97→1<r→(r:Int)<p→p%(r:Int)≠0:=by decide +kernel
 have:=key p h r.toNat (by lia) (by lia) (by lia)
 rwa [show (r.toNat:Int)=r by lia] at this
noncomputable abbrev Ld := Nat × List Int
def frees(p:Int)(ls:List Ld)(row:List Int):List Int:=ls.foldl (λr q=>fr p r q.2 q.1) row
structure kB(p:Int)(L m:Nat)(ls:List Ld)(ns:List (List Int))(rows:List (List Int)):Prop where
 nd:(ls.map (·.1)).Nodup
 key:∀q∈ls,q.1<m
 rl:∀q∈ls,Rw p L q.2
 rn:∀r∈ns,Rw p L r
 one:∀q∈ls,g q.2 q.1=1
 off:∀q∈ls,∀q'∈ls,q'.1≠q.1→g q.2 q'.1=0
 no:∀r∈ns,∀j,j<m→g r j=0
 eq:∀c,(∀r∈rows,Z p c r)↔((∀q∈ls,Z p c q.2)∧∀r∈ns,Z p c r)
theorem kB.start(p:Int)(L m:Nat):kB p L m [] [] []:=⟨by simp,by simp,by simp,by simp,by simp,by simp,by simp,by simp⟩
theorem zU{p:Int}{L:Nat}{ls:List Ld}(hp:1<p)(rl:∀q∈ls,Rw p L q.2)(one:∀q∈ls,g q.2 q.1=1)(off:∀q∈ls,∀q'∈ls,q'.1≠q.1→g q.2 q'.1=0) :
  ∀(l D:List Ld) (row:List Int),(∀q∈l,q∈ls)→(∀q∈D,q∈ls)→Rw p L row→(∀q∈D,g row q.1=0) →
   Rw p L (frees p l row)∧(∀q∈D++l,g (frees p l row) q.1=0)∧∀c,(∀q∈l,Z p c q.2)→(Z p c (frees p l row)↔Z p c row)
 | [],D,row,_,_,hr,hd=>⟨hr,λq hq=>hd q (by simpa using hq),λc _=>Iff.rfl⟩
 | a::l,D,row,hl,hD,hr,hd=>by
  have ha:a∈ls:=hl a (by simp)
  have r1:=G9 (by lia) a.1 hr (rl a ha)
  have hg:∀k,g (fr p row a.2 a.1) k=(g row k-g row a.1*g a.2 k)%p:=λk=>P9 (by lia) a.1 k hr (rl a ha)
  have h1:g (fr p row a.2 a.1) a.1=0:=by rw[hg,one a ha];simp
  obtain⟨i1,i2,i3⟩:=zU hp rl one off l (D++[a]) (fr p row a.2 a.1) (λq hq=>hl q (by simp[hq])) (λq hq=>by
   rcases List.mem_append.mp hq with h|h
   ·exact hD q h
   ·simp at h;subst h;exact ha) r1 (λq hq=>by
   rcases List.mem_append.mp hq with h|h
   ·by_cases e:q.1=a.1
    ·rw[e];exact h1
    ·rw[hg,hd q h,off a ha q (hD q h) e];simp
   ·simp at h;subst h;exact h1)
  refine⟨i1,λq hq=>i2 q (by simpa using hq),λc hc=>?_⟩
  exact (i3 c λq hq=>hc q (by simp[hq])).trans (P_ a.1 hr (rl a ha) (hc a (by simp)))
theorem kB.rest{p:Int}{L m:Nat}{ls:List Ld}{ns rows:List (List Int)}{row:List Int}(hp:1<p)(E:kB p L m ls ns rows)(hr:Rw p L row) :
  Rw p L (frees p ls row)∧(∀q∈ls,g (frees p ls row) q.1=0)∧∀c,(∀q∈ls,Z p c q.2)→(Z p c (frees p ls row)↔Z p c row):=by
 obtain⟨h1,h2,h3⟩:=zU hp E.rl E.one E.off ls [] row (λq h=>h) (by simp) hr (by simp)
 exact⟨h1,by simpa using h2,h3⟩
theorem kB.MV{p:Int}{L m:Nat}{ls:List Ld}{ns rows:List (List Int)}{row:List Int}(hp:1<p)(E:kB p L m ls ns rows)(hr:Rw p L row)(h0:∀j,j<m→g (frees p ls row) j=0) :
  kB p L m ls (ns++[frees p ls row]) (rows++[row]):=by
 obtain⟨h1,h2,h3⟩:=E.rest hp hr
 refine⟨E.nd,E.key,E.rl,λr h=>?_,E.one,E.off,λr h j hj=>?_,λc=>?_⟩
 ·rcases List.mem_append.mp h with h|h
  ·exact E.rn r h
  ·simp at h;subst h;exact h1
 ·rcases List.mem_append.mp h with h|h
  ·exact E.no r h j hj
  ·simp at h;subst h;exact h0 j hj
 ·constructor
  ·intro h
   have a:=(E.eq c).mp λr hr=>h r (by simp[hr])
   refine⟨a.1,λr hr=>?_⟩
   rcases List.mem_append.mp hr with hr|hr
   ·exact a.2 r hr
   ·simp at hr;subst hr;exact (h3 c a.1).mpr (h row (by simp))
  ·rintro⟨a,b⟩ r hr
   rcases List.mem_append.mp hr with hr|hr
   ·exact (E.eq c).mpr ⟨a,λr h=>b r (by simp[h])⟩ r hr
   ·simp at hr;subst hr;exact (h3 c a).mp (b _ (by simp))
def led(p:Int)(ls:List Ld)(fresh:List Int)(f:Nat):List Ld:=ls.map λq=>(q.1,fr p q.2 fresh f)
theorem kB.lead{p:Int}{L m:Nat}{ls:List Ld}{ns rows:List (List Int)}{row:List Int}{n:Int}{f:Nat}(hp:1<p)(E:kB p L m ls ns rows)(hr:Rw p L row)(hf:f<m)(h0:g (frees p ls row) f≠0)(hi:Inv p n (g (frees p ls row) f)) :
  kB p L m (led p ls (tm p n (frees p ls row)) f++[(f,tm p n (frees p ls row))]) ns (rows++[row]):=by
 obtain⟨h1,h2,h3⟩:=E.rest hp hr
 have k1:Rw p L (tm p n (frees p ls row)):=Ct (by lia) n h1.len
 have kz:∀c,Z p c (tm p n (frees p ls row))↔Z p c (frees p ls row):=λc=>VE _ c hi
 have kf:g (tm p n (frees p ls row)) f=1:=by
  rw[MU]
  have:n*g (frees p ls row) f%p=1%p:=hi
  rw[this]
  exact Int.emod_eq_of_lt (by lia) hp
 have k0:∀q∈ls,g (tm p n (frees p ls row)) q.1=0:=λq hq=>by rw[MU,h2 q hq];simp
 generalize tm p n (frees p ls row)=u at k1 kz kf k0
 have fne:∀q∈ls,q.1≠f:=λq hq e=>h0 (by rw[← e];exact h2 q hq)
 have hg:∀q∈ls,∀k,g (fr p q.2 u f) k=(g q.2 k-g q.2 f*g u k)%p:=λq hq k=>P9 (by lia) f k (E.rl q hq) k1
 have mem:∀q,q∈led p ls u f++[(f,u)]→(∃q0∈ls,q=(q0.1,fr p q0.2 u f))∨q=(f,u):=λq hq=>by
  rcases List.mem_append.mp hq with h|h
  ·obtain⟨q0,h1,h2⟩:=List.mem_map.mp h
   exact .inl ⟨q0,h1,h2.symm⟩
  ·simp at h;exact .inr h
 have up:∀q0∈ls,(q0.1,fr p q0.2 u f)∈led p ls u f++[(f,u)]:=λq0 h=>List.mem_append_left _ (List.mem_map.mpr ⟨q0,h,rfl⟩)
 refine⟨?_,λq hq=>?_,λq hq=>?_,E.rn,λq hq=>?_,λq hq q' hq' hne=>?_,E.no,λc=>?_⟩
 ·have e1:(led p ls u f++[(f,u)]).map (·.1)=ls.map (·.1)++[f]:=by simp[led]
  rw[e1,List.nodup_append]
  refine⟨E.nd,by simp,λa ha b hb=>?_⟩
  simp at hb
  obtain⟨q,hq,rfl⟩:=List.mem_map.mp ha
  rw[hb]
  exact fne q hq
 ·rcases mem q hq with ⟨q0,h,rfl⟩|rfl
  ·exact E.key q0 h
  ·exact hf
 ·rcases mem q hq with ⟨q0,h,rfl⟩|rfl
  ·exact G9 (by lia) f (E.rl q0 h) k1
  ·exact k1
 ·rcases mem q hq with ⟨q0,h,rfl⟩|rfl
  ·show g (fr p q0.2 u f) q0.1=1
   rw[hg q0 h,E.one q0 h,k0 q0 h]
   simp
   exact Int.emod_eq_of_lt (by lia) hp
  ·exact kf
 ·rcases mem q hq with ⟨q0,h,rfl⟩|rfl
  ·show g (fr p q0.2 u f) q'.1=0
   rcases mem q' hq' with ⟨q1,h',rfl⟩|rfl
   ·have hne:q1.1≠q0.1:=hne
    show g (fr p q0.2 u f) q1.1=0
    rw[hg q0 h,E.off q0 h q1 h' hne,k0 q1 h']
    simp
   ·show g (fr p q0.2 u f) f=0
    rw[hg q0 h,kf]
    simp
  ·rcases mem q' hq' with ⟨q1,h',rfl⟩|rfl
   ·exact k0 q1 h'
   ·exact absurd rfl hne
 ·have key:∀q0∈ls,Z p c u→(Z p c (fr p q0.2 u f)↔Z p c q0.2):=λq0 h hz=>P_ f (E.rl q0 h) k1 hz
  constructor
  ·intro h
   have a:=(E.eq c).mp λr hr=>h r (by simp[hr])
   have hz:Z p c u:=(kz c).mpr ((h3 c a.1).mpr (h row (by simp)))
   refine⟨λq hq=>?_,a.2⟩
   rcases mem q hq with ⟨q0,h',rfl⟩|rfl
   ·exact (key q0 h' hz).mpr (a.1 q0 h')
   ·exact hz
  ·rintro⟨a,b⟩ r hr
   have hz:Z p c u:=a (f,u) (by simp)
   have al:∀q∈ls,Z p c q.2:=λq hq=>(key q hq hz).mp (a _ (up q hq))
   rcases List.mem_append.mp hr with hr|hr
   ·exact (E.eq c).mpr ⟨al,b⟩ r hr
   ·simp at hr;subst hr
    exact (h3 c al).mp ((kz c).mp hz)
def oE:DS :=
 (aA (aE 3 (ai aL (ae 2) (ae 0)))
 (aA (sIf (ai fEq (ae 3) (dC (.int 0))) tL dA)
 (aA (aE 4 (ai aL (ae 1) (ae 0)))
 (aA (kM (ai fNe (ae 3) (dC (.int 1))) (aA (aE 4 (ai aL (ai aM (dUn tw (ae 4)) (ai d_ (ae 0) (ae 3))) (ae 0)))
 (aE 3 (ai aL (ae 0) (ae 3)))))
 (aS (ae 4))))))
def kY:DS :=
 (aS (br (h7 (ae 2)) [none,some 0,some 1] (aN 0) (dC (.bl true)) (ai aL (ai aM (ae 2) (ae 0)) (ae 1))))
def ie:DS :=
 (aA (aE 4 (aF (ae 1) (ae 3)))
 (aA (sIf (ai fEq (ae 4) (dC (.int 0))) (aS (ae 1)) dA)
 (aS (br (me (ae 1) (ae 2)) [none,none,some 0,some 4] (b4 [0,1]) (dC (.bl true)) (ai aL (ai vf (ae 0) (ai aM (ae 3) (ae 1))) (ae 2))))))
def ee:DS :=
 (aA (eL (bx (ae 1)) (aN 2) (sIf (ai fNe (aF (ae 0) (ae 2)) (dC (.int 0))) (aS (ae 2)) dA))
 (aS (dC (.non))))
def nE:DS :=
 (aA (aE 3 (dP (dC (.dct []))))
 (aA (aE 4 (dP (eY [])))
 (aA (eL (h7 (ae 1)) (aN 5) (aA (aE 6 (ae 5))
 (aA (eL (kT (ae 3)) (b4 [7,8]) (aE 6 (aB (cal (fnV 5 ie)) [(ae 0),(ae 6),(ae 8),(ae 7)])))
 (aA (aE 9 (aB (cal (fnV 3 ee)) [(ae 6),(ae 2)]))
 (sIf (dUn tH (ae 9)) (cu (ae 4) (ae 6)) (aA (aE 10 (aB (cal (fnV 3 kY)) [(ae 0),(aB (cal (fnV 5 oE)) [(ae 0),(dC (.int 1)),(aF (ae 6) (ae 9))]),(ae 6)]))
 (aA (eL (h7 (dUn B5 (ae 3))) (aN 7) (rG 3 (ae 7) (aB (cal (fnV 5 ie)) [(ae 0),(ai t5 (ae 3) (ae 7)),(ae 10),(ae 9)])))
 (rG 3 (ae 9) (ae 10)))))))))
 (aS (lX [(ae 3),(ae 4)])))))
noncomputable abbrev li (r : List Int) : T := .lst (r.map T.int)
theorem Cu{p:Int}(hP:lQ p)(one other:Int)(μ:ag)(h0:other%p≠0) :
  ∃y,fnV 5 oE [.val (.int p),.val (.int one),.val (.int other)] μ = .ok (.val (.int y)) μ∧0≤y∧y<p∧(y*other-one)%p=0:=by
 have hb:=hP.pos
 have hp0:0<p:=Int.lt_of_lt_of_le (by decide) hb.1
 unfold oE
 have hp:0<p:=by lia
 have z:(other%p==0)=false:=by simpa using h0
 (try simp_all! only[]);simp[hp,z]
 have r0:=Int.emod_nonneg other (Int.ne_of_gt hp0)
 have r1:=Int.emod_lt_of_pos other hp
 refine t4 (P:=λr=>∃y,RS.yY μ.length (r.seq (aS (ae 4)))=R.ok (SV.val (T.int y)) μ∧0≤y∧y<p∧(y*other-one)%p=0) ?_
  (λn e μ'=>μ'=μ∧∃rest told:Int,e=[some (.val (.int p)),some (.val (.int one)),some (.val (.int other)),some (.val (.int rest)),some (.val (.int told))]∧rest.toNat=n∧1≤rest∧rest<p∧0≤told∧told<p∧∃t,told*other=one*rest+p*t) ?_ (other%p).toNat _ _ ?_
 ·rintro⟨y,h,_⟩;cases h
 ·rintro m e μ' ⟨rfl,rest,told,rfl,hm,q1,q2,q3,q4,t,ht⟩
  by_cases e1:rest=1
  ·subst e1
   refine⟨false,μ',by simp,?_⟩
   rw[if_neg (by simp)]
   refine⟨told,by simp,q3,q4,?_⟩
   rw[ht]
   simp
   exact Int.emod_eq_zero_of_dvd ⟨t,by lia⟩
  ·refine⟨true,μ',by simp[e1],?_⟩
   rw[if_pos rfl]
   have d1:0≤p / rest:=Int.ediv_nonneg (by lia) (by lia)
   have d2:p / rest≤p:=Int.ediv_le_self _ (by lia)
   have hm2:aM (.int (-told)) (.int (p / rest))=some (.int (-told*(p / rest))):=ib _ _ (by lia) (by lia)
   have hr:0<rest:=by lia
   have hr2:rest<1073741824:=by lia
   (try simp_all! only[]);simp[hp,hr,hr2,hm2]
   have m0:=Int.emod_nonneg p (show rest≠0 by lia)
   have m1:=Int.emod_lt_of_pos p hr
   have m2:=Qa hP rest (by lia) q2
   have t0:=Int.emod_nonneg (-told*(p / rest)) (Int.ne_of_gt hp0)
   have t1:=Int.emod_lt_of_pos (-told*(p / rest)) hp
   refine⟨(p%rest).toNat,by lia,p%rest,-told*(p / rest)%p,⟨rfl,rfl⟩,rfl,by lia,by lia,t0,t1,?_⟩
   obtain⟨u,hu⟩:=md (-told*(p / rest)) p
   have e3:p%rest=p-rest*(p / rest):=Int.emod_def p rest
   rw[hu,e3]
   refine⟨-(u*other)-(p / rest)*t-one,?_⟩
   generalize p / rest=d
   grind
 ·have b0:=Int.emod_nonneg one (Int.ne_of_gt hp0)
  have b1:=Int.emod_lt_of_pos one hp
  refine⟨rfl,_,_,rfl,rfl,by lia,r1,b0,b1,?_⟩
  obtain⟨u,hu⟩:=md one p
  obtain⟨v,hv⟩:=md other p
  exact⟨one*v-u*other,by rw[hu,hv];grind⟩
theorem uW{p:Int}{L:Nat}(hp:0<p)(hp2:p<1000000)(n:Int)(r:List Int)(μ:ag)(h:Rw p L r)(hl:L≤1000) :
  fnV 3 kY [.val (.int p),.val (.int n),.val (li r)] μ = .ok (.val (li (tm p n r))) μ:=by
 unfold kY
 simp
 rw[bE _ (λe:Int => .int (n*e%p)) (by simp)]
 ·rw[R.eK,R.bf,if_pos (by have:=h.len;simp[szL];lia)]
  (try simp_all! only[]);simp[tm,Function.comp_def]
 ·intro e he
  have h1:=h.lo e he
  have h2:=h.hi e he
  refine⟨_,rfl,?_⟩
  have:aM (.int n) (.int e)=some (.int (n*e)):=i4 _ _ (by lia) (by lia)
  (try simp_all! only[]);simp[this,hp]
theorem atg{r:List Int}{k:Int}(h0:0≤k)(h1:k<r.length):atI (r.map T.int) k=some (.int (g r k.toNat)):=by
 rw[jM h0 h1,ym r k.toNat (by lia)]
theorem zV{p:Int}{L:Nat}(hp:0<p)(hp2:p<1000000)(q:Nat)(row lead:List Int)(μ:ag)(h1:Rw p L row)(h2:Rw p L lead)(hl:L≤1000)(hq:q<L) :
  fnV 5 ie [.val (.int p),.val (li row),.val (li lead),.val (.int q)] μ = .ok (.val (li (fr p row lead q))) μ:=by
 unfold ie
 have ha:atI (row.map T.int) (q:Int)=some (.int (g row q)):=atg (by lia) (by have:=h1.len;lia)
 simp[ha]
 by_cases e:g row q=0
 ·simp[e,fr]
 ·have e':(g row q==0)=false:=by simpa using e
  simp[e,e']
  rw[gC,bE _ (λz:Int×Int => .int ((z.1-g row q*z.2)%p)) (by simp)]
  ·rw[R.eK,R.bf,if_pos (by have:=h1.len;simp[szL];lia)]
   (try simp_all! only[]);simp[fr,e,sub,Function.comp_def]
  ·rintro⟨x,y⟩ hz
   have b:=h1.g0 hp q
   refine⟨_,rfl,?_⟩
   have:aM (.int (g row q)) (.int y)=some (.int (g row q*y)):=ib _ _ (by lia) (by lia)
   simp[this,hp]
theorem G_{p:Int}{L m:Nat}(r:List Int)(μ:ag)(h:Rw p L r)(hm:m≤L)(hl:L≤1000) :
  (fnV 3 ee [.val (li r),.val (.int m)] μ = .ok (.val .non) μ∧∀j,j<m→g r j=0) ∨
  ∃f:Nat,fnV 3 ee [.val (li r),.val (.int m)] μ = .ok (.val (.int f)) μ∧f<m∧g r f≠0:=by
 unfold ee
 simp (disch:=lia)
 refine mr (P:=λx=>(RS.yY μ.length (x.seq (aS (dC .non)))=R.ok (SV.val .non) μ∧∀j,j<m→g r j=0)∨∃f:Nat,RS.yY μ.length (x.seq (aS (dC .non)))=R.ok (SV.val (.int f)) μ∧f<m∧g r f≠0)
  (λi e μ'=>μ'=μ∧(∀j,j<i→g r j=0)∧∃x,e=[some (.val (li r)),some (.val (.int m)),x]) (λ_ _ _ _=>trivial) ?_ ?_ ⟨rfl,by simp,none,rfl⟩
 ·rintro i t e μ' ht ⟨rfl,hz,x,rfl⟩
  obtain⟨hi,rfl⟩:=pO ht
  refine⟨_,rfl,?_⟩
  have hi':i<m:=by lia
  have ha:atI (r.map T.int) ((0:Int)+i)=some (.int (g r i)):=by
   have:=atg (r:=r) (k:=(0:Int)+i) (by lia) (by have:=h.len;lia)
   rwa [show ((0:Int)+i).toNat=i by lia] at this
  simp at ha
  (try simp_all! only[]);simp[ha]
  by_cases e:g r i=0
  ·(try simp_all! only[]);simp[e]
   intro j hj
   by_cases ej:j=i
   ·rw[ej];exact e
   ·exact hz j (by lia)
  ·have e':(g r i==0)=false:=by simpa using e
   (try simp_all! only[]);simp[e,e']
   exact⟨i,rfl,hi',e⟩
 ·rintro e μ' ⟨rfl,hz,x,rfl⟩
  left
  refine⟨by simp,?_⟩
  rw[eE] at hz
  intro j hj
  exact hz j (by lia)
def dk(ls:List Ld):List (Key×T):=ls.map λq=>((.inl (q.1:Int):Key),li q.2)
theorem rz(a b:List Ld):dk (a++b)=dk a++dk b:=by simp[dk]
theorem Ha(a:List Ld):(dk a).length=a.length:=by simp[dk]
theorem rA{ls:List Ld}{i:Nat}{t:T}(h:(e8 (dk ls))[i]?=some t):∃q,ls[i]?=some q∧i<ls.length∧t = .tup [.int (q.1:Int),li q.2]:=by
 unfold e8 dk at h
 rw[List.map_map,List.getElem?_map] at h
 obtain⟨q,h1,rfl⟩:=Option.map_eq_some_iff.mp h
 exact⟨q,h1,(List.getElem?_eq_some_iff.mp h1).1,rfl⟩
theorem Bu(p:Int)(ls:List Ld)(row:List Int)(i:Nat)(q:Ld)(h:ls[i]?=some q):frees p (ls.take (i+1)) row=fr p (frees p (ls.take i) row) q.2 q.1:=by
 unfold frees
 rw[List.take_add_one,h]
 simp
theorem zW{p:Int}{L:Nat}(hp:0<p):∀(ls:List Ld) (row:List Int),(∀q∈ls,Rw p L q.2)→Rw p L row→Rw p L (frees p ls row)
 | [],row,_,h=>h
 | q::ls,row,hq,h=>zW hp ls _ (λq' h'=>hq q' (by simp[h'])) (G9 hp q.1 h (hq q (by simp)))
theorem JR{ls:List Ld}{q:Ld}(hn:(ls.map (·.1)).Nodup)(h:q∈ls):kS (dk ls) (.inl (q.1:Int))=some (li q.2):=by
 induction ls with
 | nil=>simp at h
 | cons a ls ih =>
  have hn':(a.1::ls.map (·.1)).Nodup:=hn
  obtain⟨h1,h2⟩:=List.nodup_cons.mp hn'
  have e:dk (a::ls)=((.inl (a.1:Int):Key),li a.2)::dk ls:=rfl
  rw[e]
  unfold kS
  rw[List.find?_cons]
  by_cases ea:a.1=q.1
  ·have:q=a:=by
    rcases List.mem_cons.mp h with h|h
    ·exact h
    ·exact absurd (List.mem_map.mpr ⟨q,h,ea.symm⟩) h1
   subst this
   simp
  ·have hne:¬ ((Sum.inl (a.1:Int):Key) = .inl (q.1:Int)):=λz=>ea (by have:=Sum.inl.inj z;lia)
   have:q∈ls:=by
    rcases List.mem_cons.mp h with h|h
    ·subst h;exact absurd rfl ea
    ·exact h
   simp only[hne,decide_false]
   exact ih h2 this
theorem Bv(ls:List Ld)(f:Nat):((dk ls).any λkv=>decide (kv.1=(.inl (f:Int):Key)))=ls.any λq=>decide (q.1=f):=by
 unfold dk
 rw[List.any_map]
 congr 1
 funext q
 show decide ((Sum.inl (q.1:Int):Key) = .inl (f:Int))=decide (q.1=f)
 by_cases e:q.1=f
 ·simp[e]
 ·have:¬ ((Sum.inl (q.1:Int):Key) = .inl (f:Int)):=λz=>e (by have:=Sum.inl.inj z;lia)
  simp[e,this]
theorem Hb{ls:List Ld}{f:Nat}(r:List Int)(h:∀q∈ls,q.1≠f):xm (dk ls) (.inl (f:Int)) (li r)=dk (ls++[(f,r)]):=by
 unfold xm
 rw[Bv,if_neg,rz]
 ·rfl
 ·intro hc
  obtain⟨q,hq,e⟩:=List.any_eq_true.mp hc
  exact h q hq (of_decide_eq_true e)
theorem Hd{a b:List Ld}{q:Ld}(r:List Int)(hn:((a++q::b).map (·.1)).Nodup):xm (dk (a++q::b)) (.inl (q.1:Int)) (li r)=dk (a++(q.1,r)::b):=by
 unfold xm
 rw[Bv,if_pos (List.any_eq_true.mpr ⟨q,by simp,by simp⟩)]
 have ne:∀x∈a++b,¬ ((Sum.inl (x.1:Int):Key) = .inl (q.1:Int)):=λx hx z=>by
  have e:x.1=q.1:=by have:=Sum.inl.inj z;lia
  rw[List.map_append,List.nodup_append] at hn
  obtain⟨_,n2,n3⟩:=hn
  rcases List.mem_append.mp hx with h|h
  ·exact n3 x.1 (List.mem_map.mpr ⟨x,h,rfl⟩) q.1 (by simp) e
  ·have n2':(q.1::b.map (·.1)).Nodup:=n2
   exact (List.nodup_cons.mp n2').1 (List.mem_map.mpr ⟨x,h,e⟩)
 have same:∀l:List Ld,(∀x∈l,x∈a++b)→(dk l).map (λkv=>if kv.1=(.inl (q.1:Int):Key) then (kv.1,li r) else kv)=dk l:=λl hl=>by
  unfold dk
  rw[List.map_map]
  refine List.map_congr_left λx hx=>?_
  show (if (Sum.inl (x.1:Int):Key) = .inl (q.1:Int) then _ else _)=_
  rw[if_neg (ne x (hl x hx))]
 rw[rz,List.map_append,same a (λx h=>by simp[h]),rz]
 congr 1
 show (if (Sum.inl (q.1:Int):Key) = .inl (q.1:Int) then _ else _)::(dk b).map _=_
 rw[if_pos rfl,same b (λx h=>by simp[h])]
 rfl
section
variable{p:Int}{L m:Nat}
theorem MW(hP:lQ p)(hl:L≤1000)(hmL:m≤L){ls:List Ld}{row:List Int}(hk:∀q∈ls,q.1<m)(rl:∀q∈ls,Rw p L q.2)(hr:Rw p L row)(same:ag→Prop)(μ:ag)(hs:same μ)(x1 x2 x3 x4 x5 x7 x8 x9 x10:Option SV) :
  ∃y7 y8,forL same (b4 [7,8]) (aE 6 (aB (cal (fnV 5 ie)) [(ae 0),(ae 6),(ae 8),(ae 7)])) (e8 (dk ls)) [some (.val (.int p)),x1,x2,x3,x4,x5,some (.val (li row)),x7,x8,x9,x10] μ =
   .nx [some (.val (.int p)),x1,x2,x3,x4,x5,some (.val (li (frees p ls row))),y7,y8,x9,x10] μ:=by
 have hb:=hP.pos
 have hp0:0<p:=Int.lt_of_lt_of_le (by decide) hb.1
 obtain⟨e',μ',h1,y7,y8,h2,h3⟩:=ic (same:=same) (b:=b4 [7,8]) (body:=aE 6 (aB (cal (fnV 5 ie)) [(ae 0),(ae 6),(ae 8),(ae 7)])) (ts:=e8 (dk ls))
  (e:=[some (.val (.int p)),x1,x2,x3,x4,x5,some (.val (li row)),x7,x8,x9,x10]) (μ:=μ)
  (λi e μ'=>∃y7 y8,μ'=μ∧e=[some (.val (.int p)),x1,x2,x3,x4,x5,some (.val (li (frees p (ls.take i) row))),y7,y8,x9,x10])
  (λi e μ' ax=>by obtain⟨_,_,h,_⟩:=ax;rw[h];exact hs) (λi t e μ' ht eA=>by
   obtain⟨y7,y8,hμ,he⟩:=eA
   subst hμ he
   obtain⟨q,hq,hi,rfl⟩:=rA ht
   have hm:q∈ls:=List.mem_of_getElem? hq
   have hf:=zV (p:=p) (L:=L) (by lia) (by lia) q.1 (frees p (ls.take i) row) q.2 μ' (zW (by lia) _ _ (λq' h'=>rl q' (List.mem_of_mem_take h')) hr) (rl q hm) hl (by have:=hk q hm;lia)
   refine⟨_,_,_,dB _ _ _ _ _,?_,some (.val (.int q.1)),some (.val (li q.2)),rfl,rfl⟩
   rw[Bu p ls row i q hq]
   simp only[kL,iw,bH,fb,eU,List.set_cons_succ,List.set_cons_zero,dz,dy,R.ba,R.bf,lY]
   rw[hf]
   rfl) ⟨x7,x8,rfl,rfl⟩
 refine⟨y7,y8,?_⟩
 rw[h1,h2,h3]
 have:(e8 (dk ls)).length=ls.length:=by simp[e8,dk]
 rw[this,List.take_length]
theorem He(u:List Int)(f:Nat)(ls:List Ld)(i:Nat)(q:Ld)(h:ls[i]?=some q):led p (ls.take (i+1)) u f=led p (ls.take i) u f++[(q.1,fr p q.2 u f)]:=by
 unfold led
 rw[List.take_add_one,h]
 simp
theorem Hf{ls:List Ld}{i:Nat}{t:T}(h:((dk ls).map λp=>yU p.1)[i]?=some t):∃q,ls[i]?=some q∧i<ls.length∧t = .int (q.1:Int):=by
 unfold dk at h
 rw[List.map_map,List.getElem?_map] at h
 obtain⟨q,h1,rfl⟩:=Option.map_eq_some_iff.mp h
 exact⟨q,h1,(List.getElem?_eq_some_iff.mp h1).1,rfl⟩
theorem MX(hP:lQ p)(hl:L≤1000)(hmL:m≤L){ls:List Ld}{u:List Int}{f:Nat}(hn:(ls.map (·.1)).Nodup)(hf:f<m)(rl:∀q∈ls,Rw p L q.2)(hu:Rw p L u)(hsz:ls.length<szL)(same:ag→Prop)(hs:∀μ,same μ)(μ tl:ag)(x1 x2 x4 x5 x6 x7 x8:Option SV) :
  ∃y7,forL same (aN 7) (rG 3 (ae 7) (aB (cal (fnV 5 ie)) [(ae 0),(ai t5 (ae 3) (ae 7)),(ae 10),(ae 9)])) ((dk ls).map λp=>yU p.1)
   [some (.val (.int p)),x1,x2,some (.cel μ.length),x4,x5,x6,x7,x8,some (.val (.int f)),some (.val (li u))] (μ++(true,.dct (dk ls))::tl) =
   .nx [some (.val (.int p)),x1,x2,some (.cel μ.length),x4,x5,x6,y7,x8,some (.val (.int f)),some (.val (li u))] (μ++(true,.dct (dk (led p ls u f)))::tl):=by
 have hb:=hP.pos
 have hp0:0<p:=Int.lt_of_lt_of_le (by decide) hb.1
 obtain⟨e',μ',h1,y7,h2,h3⟩:=ic (same:=same) (b:=aN 7) (body:=rG 3 (ae 7) (aB (cal (fnV 5 ie)) [(ae 0),(ai t5 (ae 3) (ae 7)),(ae 10),(ae 9)])) (ts:=(dk ls).map λp=>yU p.1)
  (e:=[some (.val (.int p)),x1,x2,some (.cel μ.length),x4,x5,x6,x7,x8,some (.val (.int f)),some (.val (li u))]) (μ:=μ++(true,.dct (dk ls))::tl)
  (λi e μ'=>∃y7,μ'=μ++(true,.dct (dk (led p (ls.take i) u f++ls.drop i)))::tl∧e=[some (.val (.int p)),x1,x2,some (.cel μ.length),x4,x5,x6,y7,x8,some (.val (.int f)),some (.val (li u))])
  (λi e μ' _=>hs μ') (λi t e μ' ht ax=>by
   obtain⟨y7,hμ,he⟩:=ax
   subst hμ he
   obtain⟨q,hq,hi,rfl⟩:=Hf ht
   have hm:q∈ls:=List.mem_of_getElem? hq
   have hd:ls.drop i=q::ls.drop (i+1):=by
    rw[List.drop_eq_getElem_cons hi]
    congr 1
    rw[List.getElem?_eq_getElem hi] at hq
    exact Option.some.inj hq
   have KS:(led p (ls.take i) u f++q::ls.drop (i+1)).map (·.1)=ls.map (·.1):=by
    rw[← hd,List.map_append]
    have:(led p (ls.take i) u f).map (·.1)=(ls.take i).map (·.1):=by unfold led;rw[List.map_map];rfl
    rw[this,← List.map_append,List.take_append_drop]
   have hnd:((led p (ls.take i) u f++q::ls.drop (i+1)).map (·.1)).Nodup:=by rw[KS];exact hn
   have hlen:(dk (led p (ls.take i) u f++q::ls.drop (i+1))).length<szL:=by
    have:=congrArg List.length KS
    simp only[List.length_map] at this
    rw[Ha,this];exact hsz
   have hv:=JR hnd (q:=q) (by simp)
   have hfr:=zV (p:=p) (L:=L) (by lia) (by lia) f q.2 u (μ++(true,.dct (dk (led p (ls.take i) u f++q::ls.drop (i+1))))::tl) (rl q hm) hu hl (by lia)
   rw[hd]
   refine⟨_,_,_,mf _ _ _,?_,some (.val (.int q.1)),rfl,rfl⟩
   rw[He u f ls i q hq,List.append_assoc,List.singleton_append,← Hd (fr p q.2 u f) hnd]
   simp only[t6,iw,bH,fb,eU,List.set_cons_succ,List.set_cons_zero,dz,dy,R.ba,R.bf,R.toS_ok,lY,pG,mm,jm,fE,Option.map_some,pF,DB,hv]
   rw[hfr]
   simp only[R.eK,R.toS_ok,pD]
   rw[wq (kts:=dk (led p (ls.take i) u f++q::ls.drop (i+1))) (by simp) hlen]
   simp) ⟨x7,by simp[led],rfl⟩
 refine⟨y7,?_⟩
 rw[h1,h2,h3]
 have:((dk ls).map λp=>yU p.1).length=ls.length:=by simp[dk]
 rw[this,List.take_length,List.drop_length,List.append_nil]
end
seal RS.tY
theorem zX{r:RS}{k:Slots→ag→RS}{I:Slots→ag→Prop}{P:RS→Prop}{e':Slots}{μ':ag}(h:r = .nx e' μ')(hk:(k e' μ').tY I P):(r.seq k).tY I P:=by rw[h];exact hk
section
variable{p:Int}{L m:Nat}
theorem zY(hP:lQ p)(hl:L≤1000)(hmL:m≤L)(rows:List (List Int))(hR:∀r∈rows,Rw p L r)(hrn:rows.length≤1000)(x:SV)(μ:ag)(hx:∀l,rd (μ++l) x=some (.lst (rows.map li))) :
  ∃ls ns,fnV 11 nE [.val (.int p),x,.val (.int m)] μ = .ok (.val (.tup [.dct (dk ls),.lst (ns.map li)])) μ∧kB p L m ls ns rows∧ls.length+ns.length=rows.length:=by
 have hb:=hP.pos
 have hp0:0<p:=Int.lt_of_lt_of_le (by decide) hb.1
 unfold nE
 simp[hx]
 refine mr (P:=λr=>∃ls ns,RS.yY μ.length (r.seq (aS (lX [ae 3,ae 4])))=R.ok (SV.val (.tup [.dct (dk ls),.lst (ns.map li)])) μ∧kB p L m ls ns rows∧ls.length+ns.length=rows.length)
  (λi e μ'=>∃ls ns x5 x6 x7 x8 x9 x10,e=[some (.val (.int p)),some x,some (.val (.int m)),some (.cel μ.length),some (.cel (μ.length+1)),x5,x6,x7,x8,x9,x10]∧μ'=μ++[(true,.dct (dk ls)),(true,.lst (ns.map li))]∧kB p L m ls ns (rows.take i)∧ls.length+ns.length=i)
  ?_ ?_ ?_ ⟨[],[],none,none,none,none,none,none,rfl,rfl,kB.start p L m,rfl⟩
 ·rintro i e μ' ⟨ls,ns,_,_,_,_,_,_,_,h,_⟩
  rw[h];exact hx _
 ·rintro i t e μ' ht ⟨ls,ns,x5,x6,x7,x8,x9,x10,rfl,rfl,E,hlen⟩
  rw[List.getElem?_map] at ht
  obtain⟨row,MY,rfl⟩:=Option.map_eq_some_iff.mp ht
  have hi:i<rows.length:=(List.getElem?_eq_some_iff.mp MY).1
  have hr:Rw p L row:=hR row (List.mem_of_getElem? MY)
  have htk:rows.take (i+1)=rows.take i++[row]:=by rw[List.take_add_one,MY];rfl
  obtain⟨r1,r2,r3⟩:=E.rest (by lia) hr
  refine⟨_,mf _ _ _,?_⟩
  (try simp_all! only[]);simp only[gg,kL,fb,List.set_cons_succ,List.set_cons_zero,dz,dy,R.ba,R.toS_ok,RS.cD,nq,qx,R.bf,mm,fE,Option.map_some,Option.bind_some,xn]
  obtain⟨y7,y8,h⟩:=MW hP hl hmL E.key E.rl hr (λμ'=>Option.map (λx=>x.snd) μ'[List.length μ]?=some (T.dct (dk ls))) (μ++[(true,T.dct (dk ls)),(true,T.lst (ns.map li))]) (by simp) (some x) (some (.val (.int m))) (some (.cel μ.length)) (some (.cel (μ.length+1))) (some (.val (li row))) x7 x8 x9 x10
  refine zX h ?_
  clear h
  simp only[gg,kL,fb,iw,bH,eU,lY,List.set_cons_succ,List.set_cons_zero,dz,dy,R.ba,R.bf,R.toS_ok,RS.cD]
  have hfo:=G_ (m:=m) (frees p ls row) (μ++[(true,T.dct (dk ls)),(true,T.lst (ns.map li))]) r1 hmL hl
  generalize fnV 3 ee [.val (li (frees p ls row)),.val (.int m)] (μ++[(true,T.dct (dk ls)),(true,T.lst (ns.map li))])=G at hfo ⊢
  rcases hfo with ⟨rfl,hz⟩|⟨f,rfl,hfm,hne⟩
  ·skip
   have hsz:(ns.map li).length<szL:=by rw[List.length_map];unfold szL;lia
   (try simp_all! only[]);simp[AU _ _ _ _ _ hsz]
   refine⟨ls,ns++[frees p ls row],⟨rfl,by simp⟩,?_,by simp;lia⟩
   rw[htk]
   exact E.MV (by lia) hr hz
  ·skip
   have ha:atI ((frees p ls row).map T.int) (f:Int)=some (.int (g (frees p ls row) f)):=atg (by lia) (by rw[r1.len];lia)
   have gb:=r1.g0 (p:=p) (by lia) f
   have m8:g (frees p ls row) f%p≠0:=by rw[Int.emod_eq_of_lt gb.1 gb.2];exact hne
   obtain⟨y,ho,y0,y1,yz⟩:=Cu hP 1 (g (frees p ls row) f) (μ++[(true,T.dct (dk ls)),(true,T.lst (ns.map li))]) m8
   have ht:=uW (p:=p) (L:=L) (by lia) (by lia) y (frees p ls row) (μ++[(true,T.dct (dk ls)),(true,T.lst (ns.map li))]) r1 hl
   have hinv:Inv p y (g (frees p ls row) f):=by
    unfold Inv
    exact Int.emod_eq_emod_iff_emod_sub_eq_zero.mpr yz
   have hE:=E.lead (by lia) hr hfm hne hinv
   have fne:∀q∈ls,q.1≠f:=λq hq e=>hne (by rw[← e];exact r2 q hq)
   generalize hu:tm p y (frees p ls row)=u at ht hE
   have hu2:Rw p L u:=by rw[← hu];exact Ct (by lia) y r1.len
   (try simp_all! only[]);simp only[R.eK,R.toS_ok,AL,w8,fb,List.set_cons_succ,List.set_cons_zero,dz,dy,R.ba,R.bf,jm,pE,Dr,Option.map_some,jn,Bool.false_eq_true,if_false,gg,kL,iw,bH,eU,lY,s_,kK,Option.bind_some,lZ,ha,ho,ht,RS.cD,nq,xh,mm,fE,B5,i5]
   refine (MX hP hl hmL E.nd hfm E.rl hu2 (by unfold szL;lia) _ ?_ _ _ _ _ _ _ _ _ _).elim λy7 h=>zX h ?_
   ·intro μ'';trivial
   have hkl:(dk (led p ls u f)).length<szL:=by rw[Ha];simp[led];unfold szL;lia
   simp only[t6,fb,dz,dy,R.ba,R.toS_ok,jm,pD]
   rw[wq (kts:=dk (led p ls u f)) (by simp) hkl]
   (try simp_all! only[]);simp only[R.ba,R.toS_ok,Ce,nA]
   rw[Hb u (λq hq=>by
    obtain⟨q0,h0,rfl⟩:=List.mem_map.mp hq
    exact fne q0 h0)]
   refine⟨_,ns,_,_,_,_,_,_,rfl,rfl,?_,?_⟩
   ·rw[htk];exact hE
   ·simp[led];lia
 ·rintro e μ' ⟨ls,ns,x5,x6,x7,x8,x9,x10,rfl,rfl,E,hlen⟩
  rw[List.length_map,List.take_length] at E
  rw[List.length_map] at hlen
  exact⟨ls,ns,by simp,E,hlen⟩
end
end Fw.E
namespace Fw.E
open PySem Fw Fw.H
def eu(n k:Nat):List Int:=(List.replicate n 0).set k 1
theorem h8(n:Nat)(r:List Int):dot (List.replicate n 0) r=0:=by
 induction n generalizing r with
 | zero=>simp
 | succ n ih=>cases r with
  | nil=>simp
  | cons x r=>rw[List.replicate_succ,ck,ih];simp
theorem o_:∀(n k:Nat) (r:List Int),k<n→dot (eu n k) r=g r k
 | 0,k,r,h=>by lia
 | n+1,0,r,h=>by
  cases r with
  | nil=>simp[g]
  | cons x r =>
   have:eu (n+1) 0=1::List.replicate n 0:=by simp[eu,List.replicate_succ]
   rw[this,ck,h8,iZ];lia
 | n+1,k+1,r,h=>by
  have e:eu (n+1) (k+1)=0::eu n k:=by simp[eu,List.replicate_succ]
  cases r with
  | nil=>simp[g]
  | cons x r=>rw[e,ck,e_,o_ n k r (by lia)];lia
theorem Cv(l r:List Int):dot (l.map λx => -x) r =-dot l r:=by
 induction l generalizing r with
 | nil=>simp
 | cons x l ih=>cases r with
  | nil=>simp
  | cons y r=>simp only[List.map_cons,ck,ih];rw[Int.neg_mul];lia
theorem uX:∀(xs ys:List Int),(∀i,g xs i*g ys i=0)→dot xs ys=0
 | [],ys,h=>by simp
 | x::xs,[],h=>by simp
 | x::xs,y::ys,h=>by
  rw[ck,uX xs ys λi=>by simpa [e_] using h (i+1)]
  have:=h 0
  rw[iZ,iZ] at this
  lia
theorem uY:∀(xs ys:List Int) (k:Nat),(∀i,i≠k→g xs i*g ys i=0)→dot xs ys=g xs k*g ys k
 | [],ys,k,h=>by simp[g]
 | x::xs,[],k,h=>by simp[g]
 | x::xs,y::ys,0,h=>by
  rw[ck,uX xs ys λi=>by simpa [e_] using h (i+1) (by lia),iZ,iZ];lia
 | x::xs,y::ys,k+1,h=>by
  have:=h 0 (by lia)
  rw[iZ,iZ] at this
  rw[ck,this,uY xs ys k λi hi=>by simpa [e_] using h (i+1) (by lia),e_,e_];lia
theorem yo(r:List Int)(n k:Nat)(h:k<n):g (r.take n) k=g r k:=by
 simp[g,List.getD_eq_getElem?_getD,List.getElem?_take,h]
theorem Bw(r:List Int)(n k:Nat)(h:n≤k):g (r.take n) k=0:=by
 simp[g,List.getD_eq_getElem?_getD,List.getElem?_take,Nat.not_lt.mpr h]
theorem Cw(r:List Int)(k j:Nat)(v:Int)(h:k<r.length):g (r.set k v) j=if j=k then v else g r j:=by
 by_cases e:j=k
 ·subst e;simp[g,List.getD_eq_getElem?_getD,h]
 ·simp[g,List.getD_eq_getElem?_getD,List.getElem?_set,e,Ne.symm e]
theorem Hg(r:List Int)(m:Nat)(h:m<r.length):r=r.take m++g r m::r.drop (m+1):=by
 rw[ym r m h,← List.drop_eq_getElem_cons h,List.take_append_drop]
theorem kC(a c r:List Int)(b:Int)(m:Nat)(ha:a.length=m)(h:m<r.length):dot (a++b::c) r=dot a (r.take m)+b*g r m+dot c (r.drop (m+1)):=by
 have e:=Hg r m h
 have:dot (a++b::c) (r.take m++g r m::r.drop (m+1))=dot a (r.take m)+(b*g r m+dot c (r.drop (m+1))):=by
  rw[Bt _ _ _ _ (by simp[ha];lia),ck]
 rw[← e] at this
 rw[this];lia
theorem uZ(n k:Nat):(eu n k).length=n:=by simp[eu]
theorem m_{p:Int}(hp:1<p)(n:Nat):Rw p n (List.replicate n 0):=⟨by simp,λx hx=>by have:=(List.mem_replicate.mp hx).2;lia,λx hx=>by have:=(List.mem_replicate.mp hx).2;lia⟩
theorem Rw.set{p:Int}{n k:Nat}{r:List Int}{v:Int}(h:Rw p n r)(h0:0≤v)(h1:v<p):Rw p n (r.set k v):=by
 refine⟨by simp[h.len],λx hx=>?_,λx hx=>?_⟩
 ·rcases List.mem_or_eq_of_mem_set hx with z|z
  ·exact h.lo x z
  ·lia
 ·rcases List.mem_or_eq_of_mem_set hx with z|z
  ·exact h.hi x z
  ·lia
theorem Rw.append{p:Int}{n k:Nat}{r s:List Int}(h:Rw p n r)(h':Rw p k s):Rw p (n+k) (r++s):=by
 refine⟨by simp[h.len,h'.len],λx hx=>?_,λx hx=>?_⟩
 ·rcases List.mem_append.mp hx with z|z
  ·exact h.lo x z
  ·exact h'.lo x z
 ·rcases List.mem_append.mp hx with z|z
  ·exact h.hi x z
  ·exact h'.hi x z
theorem Rw.drop{p:Int}{n k:Nat}{r:List Int}(h:Rw p n r):Rw p (n-k) (r.drop k) :=
 ⟨by simp[h.len],λx hx=>h.lo x (List.mem_of_mem_drop hx),λx hx=>h.hi x (List.mem_of_mem_drop hx)⟩
def col(lines:List (List Int))(j:Nat):List Int:=lines.map λl=>g l j
def aug(w:Nat)(lines:List (List Int))(ws:List Int)(j:Nat):List Int:=(col lines j++[g ws j])++eu w j
section
variable{p:Int}{w:Nat}{lines:List (List Int)}{ws:List Int}
theorem Hh(hp:0<p)(hl:∀l∈lines,Rw p w l)(j:Nat):Rw p lines.length (col lines j):=by
 refine⟨by simp[col],λx hx=>?_,λx hx=>?_⟩
 ·obtain⟨l,h,rfl⟩:=List.mem_map.mp hx
  exact ((hl l h).g0 hp j).1
 ·obtain⟨l,h,rfl⟩:=List.mem_map.mp hx
  exact ((hl l h).g0 hp j).2
theorem MZ(hp:1<p)(hl:∀l∈lines,Rw p w l)(hw:Rw p w ws)(j:Nat):Rw p (lines.length+1+w) (aug w lines ws j):=by
 have g0:=hw.g0 (by lia) j
 have h1:Rw p 1 [g ws j]:=⟨rfl,λx hx=>by simp at hx;lia,λx hx=>by simp at hx;lia⟩
 exact ((Hh (by lia) hl j).append h1).append ((m_ hp w).set (by lia) hp)
theorem Qb(k j:Nat)(h:k<lines.length):g (col lines j) k=g lines[k] j:=by
 rw[ym _ _ (by simp[col,h])];simp[col]
theorem wI(j:Nat):(aug w lines ws j).take lines.length=col lines j∧g (aug w lines ws j) lines.length=g ws j∧(aug w lines ws j).drop (lines.length+1)=eu w j:=by
 have hc:(col lines j).length=lines.length:=by simp[col]
 refine⟨?_,?_,?_⟩
 ·unfold aug;rw[List.append_assoc,List.take_append_of_le_length (by lia),List.take_of_length_le (by lia)]
 ·unfold aug;rw[ym _ _ (by simp[hc])];simp[hc]
 ·unfold aug;rw[List.drop_append_of_le_length (by simp[hc]),List.drop_of_length_le (by simp[hc]),List.nil_append]
theorem told{ls:List Ld}{ns:List (List Int)}(hp:1<p)(E:kB p (lines.length+1+w) lines.length ls ns ((List.range w).map λj=>aug w lines ws j)){r:List Int}(hr:r∈ns)(hw:ws.length=w)(hl:∀l∈lines,l.length=w) :
  (∀l∈lines,p ∣ dot l (r.drop (lines.length+1)))∧p ∣ g r lines.length-dot ws (r.drop (lines.length+1)):=by
 have hrl:=(E.rn r hr).len
 have use:∀(a v:List Int) (b:Int),a.length=lines.length→(∀j,j<w→dot a (col lines j)+b*g ws j=g v j)→p ∣ dot a (r.take lines.length)+b*g r lines.length-dot v (r.drop (lines.length+1)):=λa v b ha hv=>by
  have hz:=((E.eq (a++b::v.map λx => -x)).mp λq hq=>by
   obtain⟨j,hj,rfl⟩:=List.mem_map.mp hq
   have hj:j<w:=List.mem_range.mp hj
   obtain⟨e1,e2,e3⟩:=wI (w:=w) (lines:=lines) (ws:=ws) j
   unfold Z
   rw[kC a _ _ b lines.length ha (by simp[aug,col]),e1,e2,e3,Cv,m7 v (eu w j),o_ w j v hj,hv j hj]
   exact⟨0,by lia⟩).2 r hr
  unfold Z at hz
  rw[kC a _ _ b lines.length ha (by lia),Cv] at hz
  exact hz
 refine⟨λl hl'=>?_,?_⟩
 ·obtain⟨k,hk,rfl⟩:=List.mem_iff_getElem.mp hl'
  have:=use (eu lines.length k) lines[k] 0 (uZ _ _) λj hj=>by rw[o_ _ _ _ hk,Qb k j hk];lia
  rw[o_ _ _ _ hk,yo _ _ _ hk,E.no r hr k hk] at this
  obtain⟨t,ht⟩:=this
  exact⟨-t,by rw[Int.mul_neg];lia⟩
 ·have:=use (List.replicate lines.length 0) ws 1 (by simp) λj hj=>by rw[h8];lia
  rw[h8] at this
  simpa using this
theorem M0{ls:List Ld}{ns:List (List Int)}(hp:1<p)(E:kB p (lines.length+1+w) lines.length ls ns ((List.range w).map λj=>aug w lines ws j))(h0:∀r∈ns,g r lines.length=0){ms:List Int}(hm:ms.length=lines.length)
  (h1:∀q∈ls,g ms q.1=g q.2 lines.length) (h2:∀i,(∀q∈ls,q.1≠i)→g ms i=0) (j:Nat) (hj:j<w):p ∣ dot ms (col lines j)-g ws j:=by
 have hz:=(E.eq (ms++(-1)::List.replicate w 0)).mpr ⟨λq hq=>?_,λr hr=>?_⟩ (aug w lines ws j) (List.mem_map.mpr ⟨j,List.mem_range.mpr hj,rfl⟩)
 ·obtain⟨e1,e2,e3⟩:=wI (w:=w) (lines:=lines) (ws:=ws) j
  unfold Z at hz
  rw[kC ms _ _ _ lines.length hm (by simp[aug,col]),e1,e2,h8] at hz
  obtain⟨t,ht⟩:=hz
  exact⟨t,by lia⟩
 ·unfold Z
  rw[kC ms _ _ _ lines.length hm (by rw[(E.rl q hq).len];lia),h8,uY ms (q.2.take lines.length) q.1,yo _ _ _ (E.key q hq),E.one q hq,h1 q hq]
  ·exact⟨0,by lia⟩
  ·intro i hi
   by_cases hk:∃q'∈ls,q'.1=i
   ·obtain⟨q',hq',rfl⟩:=hk
    rw[yo _ _ _ (E.key q' hq'),E.off q hq q' hq' hi];simp
   ·rw[h2 i λq' hq' e=>hk ⟨q',hq',e⟩];simp
 ·unfold Z
  rw[kC ms _ _ _ lines.length hm (by rw[(E.rn r hr).len];lia),h8,h0 r hr,uX]
  ·exact⟨0,by lia⟩
  ·intro i
   by_cases hi:i<lines.length
   ·rw[yo _ _ _ hi,E.no r hr i hi];simp
   ·rw[Bw _ _ _ (by lia)];simp
end
def cQ:DS :=
 (aS (br (h7 (ae 1)) [none,some 0,some 2] (aN 0) (dC (.bl true)) (ai aL (aF (ae 0) (ae 2)) (ae 1))))
def kZ:DS :=
 (aA (aE 2 (dP (pH oq [(dC (.int 0))] (ae 0))))
 (aA (dQ 2 (ae 1) (dC (.int 1)))
 (aS (ae 2))))
def oF:DS :=
 (aA (aE 4 (fz (ae 2)))
 (aA (aE 5 (dP (eY [])))
 (aA (eL (bx (ae 1)) (aN 6) (cu (ae 5) (ai bD (ai bD (aB (cal (fnV 3 cQ)) [(ae 0),(ae 2),(ae 6)]) (eY [(ai aL (aF (ae 3) (ae 6)) (ae 0))])) (aB (cal (fnV 3 kZ)) [(ae 1),(ae 6)]))))
 (aA (aE 7 (aB (cal (fnV 11 nE)) [(ae 0),(ae 5),(ae 4)]))
 (aA (eL (h7 (aF (ae 7) (dC (.int 1)))) (aN 8) (sIf (ai fNe (aF (ae 8) (ae 4)) (dC (.int 0))) (aS (rX [(dC (.str "turn")),(dUn eZ (aB (cal (fnV 3 kY)) [(ae 0),(aB (cal (fnV 5 oE)) [(ae 0),(dC (.int 1)),(aF (ae 8) (ae 4))]),(yW (ae 8) (some (ai bD (ae 4) (dC (.int 1)))) none)]))])) dA))
 (aA (aE 9 (dP (pH oq [(dC (.int 0))] (ae 4))))
 (aA (eL (kT (aF (ae 7) (dC (.int 0)))) (b4 [6,10]) (dQ 9 (ae 6) (aF (ae 10) (ae 4))))
 (aS (rX [(dC (.str "sum")),(ae 9)])))))))))
noncomputable abbrev tu (r : List Int) : T := .tup (r.map T.int)
theorem yp{μ:ag}{x:SV}{ts:List T}(h:rd μ x=some (.lst ts)):rY μ x=some (.int ts.length):=by
 cases x with
 | val t=>cases h;rfl
 | cel k=>rw[Fz,h];rfl
 | box xs=>cases h
theorem Cy{μ:ag}{x:SV}{ts:List T}{i:Int}(h:rd μ x=some (.lst ts)):j5 μ x (.int i)=(atI ts i).map SV.val:=by
 cases x with
 | val t=>cases h;rfl
 | cel k=>rw[Fv,h];rfl
 | box xs=>cases h
section
variable{p:Int}{w:Nat}{lines:List (List Int)}{ws:List Int}
def mdl(p:Int)(l:List Int):List Int:=l.map (·%p)
theorem VF(p:Int)(l:List Int)(j:Nat):g (mdl p l) j=g l j%p:=by
 unfold g mdl
 rw[List.getD_eq_getElem?_getD,List.getD_eq_getElem?_getD,List.getElem?_map]
 cases l[j]? with
 | none=>simp
 | some x=>simp
theorem Qc{l:List Int}(hp:0<p)(h:l.length=w):Rw p w (mdl p l):=by
 refine⟨by unfold mdl;rw[List.length_map];exact h,λx hx=>?_,λx hx=>?_⟩
 ·obtain⟨y,_,rfl⟩:=List.mem_map.mp hx;exact Int.emod_nonneg _ (by lia)
 ·obtain⟨y,_,rfl⟩:=List.mem_map.mp hx;exact Int.emod_lt_of_pos _ hp
theorem Qd{l:List Int}(h:Rw p w l):mdl p l=l:=by
 unfold mdl
 exact (List.map_congr_left λx hx=>Int.emod_eq_of_lt (h.2 x hx) (h.3 x hx)).trans (List.map_id' l)
theorem Hi(hl:∀l∈lines,Rw p w l):lines.map (mdl p)=lines:=(List.map_congr_left λl h=>Qd (hl l h)).trans (List.map_id' lines)
theorem rO(hp:0<p)(hl:∀l∈lines,l.length=w)(hn:lines.length≤1000)(j:Nat)(hj:j<w)(x:SV)(μ:ag)(hx:rd μ x=some (.lst (lines.map tu))) :
  fnV 3 cQ [.val (.int p),x,.val (.int j)] μ = .ok (.val (li (col (lines.map (mdl p)) j))) μ:=by
 unfold cQ
 (try simp_all! only[]);simp[hx]
 rw[bE _ (λl:List Int => .int (g l j%p)) (by simp[hx])]
 ·rw[R.eK,R.bf,if_pos (by simp[szL];lia)]
  (try simp_all! only[]);simp[col,Function.comp_def,VF]
 ·intro l hm
  have h:=hl l hm
  refine⟨_,rfl,?_⟩
  have ha:atI (l.map T.int) (j:Int)=some (.int (g l j)):=by
   have:=atg (r:=l) (k:=(j:Int)) (by lia) (by rw[h];lia)
   simpa using this
  (try simp_all! only[]);simp[ha,hp]
theorem h_(hp:0<p)(hl:∀l∈lines,Rw p w l)(hn:lines.length≤1000)(j:Nat)(hj:j<w)(x:SV)(μ:ag)(hx:rd μ x=some (.lst (lines.map tu))) :
  fnV 3 cQ [.val (.int p),x,.val (.int j)] μ = .ok (.val (li (col lines j))) μ:=by
 rw[rO hp (λl h=>(hl l h).1) hn j hj x μ hx,Hi hl]
theorem Cz(xs:List T)(k:Int)(h:-(2 ^ 63)≤k∧k<2 ^ 63∧xs.length*k.toNat≤szL):oq (.lst xs) (.int k)=some (.lst (List.replicate k.toNat xs).flatten):=if_pos h
theorem rep0(n:Nat)(h:n≤1000):oq (.lst [.int 0]) (.int (n:Int))=some (li (List.replicate n 0)):=by
 have hn:(n:Int).toNat=n:=by lia
 have hz:[T.int 0].length*(n:Int).toNat≤szL:=by
  rw[hn]
  unfold szL
  simp
  lia
 rw[Cz _ _ ⟨by lia,by lia,hz⟩,hn,List.flatten_replicate_singleton,li,List.map_replicate]
theorem hs_(w j:Nat)(hj:j<w)(μ:ag):setAt (.cel μ.length) (.int (j:Int)) (.int 1) (μ++[(true,li (List.replicate w 0))])=some (μ++[(true,li (eu w j))]):=by
  rw[tW (ts:=(List.replicate w 0).map T.int) fE (by lia) (by rw[List.length_map,List.length_replicate];lia),nA]
  have:(j:Int).toNat=j:=by lia
  rw[this]
  unfold eu li
  rw[List.map_set]
theorem M1(f:T→T→Option T)(x y:Int)(z z2:T)(μ:ag)(hr:f (.lst [.int 0]) (.int x)=some z)(hs:setAt (.cel μ.length) (.int y) (.int 1) (μ++[(true,z)])=some (μ++[(true,z2)])):fnV 3 (aA (aE 2 (dP (pH f [(dC (.int 0))] (ae 0))))
 (aA (dQ 2 (ae 1) (dC (.int 1)))
 (aS (ae 2)))) [.val (.int x),.val (.int y)] μ = .ok (.val z2) μ:=by
 simp[hr,hs]
theorem JS(j:Nat)(hj:j<w)(hw:w≤1000)(μ:ag):fnV 3 kZ [.val (.int w),.val (.int j)] μ = .ok (.val (li (eu w j))) μ :=
 M1 oq w j _ _ μ (rep0 w hw) (hs_ w j hj μ)
theorem Hj(f:T→T→Option T)(i j:Nat)(e:Slots)(μ:ag)(k:Int)(t:T)(hs:slot e j=some (.val (.int k)))(h:f (.lst [.int 0]) (.int k)=some t):aE i (dP (pH f [dC (.int 0)] (ae j))) e μ = .nx (e.set i (some (.cel μ.length))) (μ++[(true,t)]):=by
 (try simp_all! only[]);simp[hs,h]
theorem yq{raw:List (List Int)}(hP:lQ p)(hl:∀l∈raw,l.length=w)(Es:raw.map (mdl p)=lines)(hw:Rw p w ws)(hn:lines.length≤200)(hw2:w≤100)(x:SV)(μ:ag)(hx:∀l,rd (μ++l) x=some (.lst (raw.map tu)))(same:ag→Prop)(Hk:∀μ',same μ')(x4 x6 x7 x8 x9 x10:Option SV) :
  ∃y6,forL same (aN 6) (cu (ae 5) (ai bD (ai bD (aB (cal (fnV 3 cQ)) [(ae 0),(ae 2),(ae 6)]) (eY [(ai aL (aF (ae 3) (ae 6)) (ae 0))])) (aB (cal (fnV 3 kZ)) [(ae 1),(ae 6)]))) (bW 0 w)
   [some (.val (.int p)),some (.val (.int w)),some x,some (.val (tu ws)),x4,some (.cel μ.length),x6,x7,x8,x9,x10] (μ++[(true,.lst [])]) =
   .nx [some (.val (.int p)),some (.val (.int w)),some x,some (.val (tu ws)),x4,some (.cel μ.length),y6,x7,x8,x9,x10] (μ++[(true,.lst (((List.range w).map λj=>aug w lines ws j).map li))]):=by
 have hb:=hP.pos
 have hp0:0<p:=Int.lt_of_lt_of_le (by decide) hb.1
 have hrl:raw.length=lines.length:=by rw[← Es,List.length_map]
 obtain⟨e',μ',h1,y6,h2,h3⟩:=ic (same:=same) (b:=aN 6) (body:=cu (ae 5) (ai bD (ai bD (aB (cal (fnV 3 cQ)) [(ae 0),(ae 2),(ae 6)]) (eY [(ai aL (aF (ae 3) (ae 6)) (ae 0))])) (aB (cal (fnV 3 kZ)) [(ae 1),(ae 6)]))) (ts:=bW 0 w)
  (e:=[some (.val (.int p)),some (.val (.int w)),some x,some (.val (tu ws)),x4,some (.cel μ.length),x6,x7,x8,x9,x10]) (μ:=μ++[(true,.lst [])])
  (λi e μ'=>∃y6,e=[some (.val (.int p)),some (.val (.int w)),some x,some (.val (tu ws)),x4,some (.cel μ.length),y6,x7,x8,x9,x10]∧μ'=μ++[(true,.lst (((List.range i).map λj=>aug w lines ws j).map li))])
  (λi e μ' _=>Hk μ') (λi t e μ' ht ax=>by
   obtain⟨y6,he,hμ⟩:=ax
   subst he hμ
   obtain⟨hi,rfl⟩:=pO ht
   have e0:(0:Int)+(i:Int)=(i:Int):=by lia
   rw[e0]
   generalize hc:(true,T.lst (((List.range i).map λj=>aug w lines ws j).map li))=c
   have JT:=rO (p:=p) (w:=w) (by lia) hl (by lia) i (by lia) x (μ++[c]) (hx _)
   rw[Es] at JT
   have hun:=JS (w:=w) i (by lia) (by lia) (μ++[c])
   have gb:=hw.g0 (p:=p) (by lia) i
   have ha:atI (ws.map T.int) (i:Int)=some (.int (g ws i)):=by
    have:=atg (r:=ws) (k:=(i:Int)) (by lia) (by rw[hw.len];lia)
    simpa using this
   have m8:g ws i%p=g ws i:=Int.emod_eq_of_lt gb.1 gb.2
   have a1:bD (li (col lines i)) (.lst [.int (g ws i)])=some (li (col lines i++[g ws i])):=by
    rw[jo _ _ (by simp[col,szL];lia)];simp
   have a2:bD (li (col lines i++[g ws i])) (li (eu w i))=some (li (aug w lines ws i)):=by
    rw[jo _ _ (by simp[col,szL,eu];lia)];simp[aug]
   have hls:qq (.cel μ.length) (μ++[c])=some ():=by rw[← hc];exact zg _ _ _ _
   have hap:∀t,appendAt (.cel μ.length) t (μ++[c])=some (μ++[(true,T.lst (((List.range i).map λj=>aug w lines ws j).map li++[t]))]):=λt=>by rw[← hc];exact tV _ _ _ _ (by simp[szL];lia)
   refine⟨_,_,_,mf _ _ _,?_,some (.val (.int i)),rfl,rfl⟩
   simp only[hls,hap,tM,iw,bH,eU,fb,lY,pG,xa,kK,nc,sY,pD,List.set_cons_succ,List.set_cons_zero,dz,dy,R.ba,R.bf,R.toS_ok,jm,pF,Option.bind_some,pK,ha,Option.map_some,cx _ _ hp0,m8,JT,hun,R.eK,a1,a2]
   rw[List.range_succ,List.map_append,List.map_append]
   rfl) ⟨x6,rfl,rfl⟩
 refine⟨y6,?_⟩
 rw[h1,h2,h3,eE]
end
seal RS.tY
theorem VG(r:List Int)(i:Int)(h0:0≤i)(h1:i≤r.length):Dt (li r) (some i) none=some (li (r.drop i.toNat)):=by
 have e1:sIx (r.map T.int).length 0 (some i)=i.toNat:=by show (if i<0 then _ else min i.toNat (r.map T.int).length)=_;rw[if_neg (by omega),List.length_map];omega
 have e2:sIx (r.map T.int).length (r.map T.int).length none=(r.map T.int).length:=rfl
 show some (T.lst (jq (r.map T.int) (some i) none))=_
 unfold jq
 rw[e1,e2,List.take_of_length_le (by simp)]
 simp
theorem atn{r:List Int}{k:Nat}(h:k<r.length):atI (r.map T.int) (k:Int)=some (.int (g r k)):=by
 have:=atg (r:=r) (k:=(k:Int)) (by omega) (by omega)
 simpa using this
section
variable{p:Int}{w:Nat}{lines:List (List Int)}{ws:List Int}
theorem JU{L m:Nat}(hp:0<p){ls:List Ld}(hn:(ls.map (·.1)).Nodup)(hk:∀q∈ls,q.1<m)(rl:∀q∈ls,Rw p L q.2)(hmL:m<L)(hp1:1<p)(same:ag→Prop)(Hk:∀μ',same μ')(μ:ag)(c:Bool×T)(x0 x1 x2 x3 x5 x6 x7 x8 x10:Option SV) :
  ∃y6 y10 ms,forL same (b4 [6,10]) (dQ 9 (ae 6) (aF (ae 10) (ae 4))) (e8 (dk ls)) [x0,x1,x2,x3,some (.val (.int m)),x5,x6,x7,x8,some (.cel (μ.length+1)),x10] (μ++[c,(true,li (List.replicate m 0))]) =
   .nx [x0,x1,x2,x3,some (.val (.int m)),x5,y6,x7,x8,some (.cel (μ.length+1)),y10] (μ++[c,(true,li ms)])∧Rw p m ms∧(∀q∈ls,g ms q.1=g q.2 m)∧∀j,(∀q∈ls,q.1≠j)→g ms j=0:=by
 obtain⟨e',μ',h1,y6,y10,ms,h2,h3,h4,h5,h6⟩:=ic (same:=same) (b:=b4 [6,10]) (body:=dQ 9 (ae 6) (aF (ae 10) (ae 4))) (ts:=e8 (dk ls))
  (e:=[x0,x1,x2,x3,some (.val (.int m)),x5,x6,x7,x8,some (.cel (μ.length+1)),x10]) (μ:=μ++[c,(true,li (List.replicate m 0))])
  (λi e μ'=>∃y6 y10 ms,e=[x0,x1,x2,x3,some (.val (.int m)),x5,y6,x7,x8,some (.cel (μ.length+1)),y10]∧μ'=μ++[c,(true,li ms)]∧Rw p m ms∧(∀q∈ls.take i,g ms q.1=g q.2 m)∧∀j,(∀q∈ls.take i,q.1≠j)→g ms j=0)
  (λi e μ' _=>Hk μ') (λi t e μ' ht ax=>by
   obtain⟨y6,y10,ms,he,hμ,hr,h5,h6⟩:=ax
   subst he hμ
   obtain⟨q,hq,hi,rfl⟩:=rA ht
   have hm:q∈ls:=List.mem_of_getElem? hq
   have hkq:=hk q hm
   have ha:=atn (r:=q.2) (k:=m) (by rw[(rl q hm).len];exact hmL)
   have gb:=(rl q hm).g0 hp m
   have M3:setAt (.cel (μ.length+1)) (.int (q.1:Int)) (.int (g q.2 m)) (μ++[c,(true,li ms)])=some (μ++[c,(true,li (ms.set q.1 (g q.2 m)))]):=by
    rw[tW (ts:=ms.map T.int) Jd (by omega) (by rw[List.length_map,hr.len];omega),Je]
    have:(q.1:Int).toNat=q.1:=by omega
    rw[this,← List.map_set]
   have htk:ls.take (i+1)=ls.take i++[q]:=by rw[List.take_add_one,hq];rfl
   have hne:∀q'∈ls.take i,q'.1≠q.1:=λq' hq' e=>by
    have hd:ls=ls.take i++q::ls.drop (i+1):=by
     have:ls.drop i=q::ls.drop (i+1):=by
      rw[List.drop_eq_getElem_cons hi]
      congr 1
      rw[List.getElem?_eq_getElem hi] at hq
      exact Option.some.inj hq
     rw[← this,List.take_append_drop]
    rw[hd,List.map_append,List.nodup_append] at hn
    exact hn.2.2 q'.1 (List.mem_map.mpr ⟨q',hq',rfl⟩) q.1 (by simp) e
   have hlen:q.1<ms.length:=by rw[hr.len];exact hkq
   refine⟨_,_,_,dB _ _ _ _ _,?_,some (.val (.int q.1)),some (.val (li q.2)),ms.set q.1 (g q.2 m),rfl,rfl,hr.set gb.1 gb.2,λq' hq'=>?_,λj hj=>?_⟩
   ·simp only[rF,kK,fb,List.set_cons_succ,List.set_cons_zero,dz,dy,R.ba,R.bf,R.toS_ok,jm,Option.bind_some,lZ,ha,Option.map_some,pD,M3]
   ·rw[Cw _ _ _ _ hlen]
    rw[htk] at hq'
    rcases List.mem_append.mp hq' with h|h
    ·rw[if_neg (hne q' h)];exact h5 q' h
    ·simp at h;subst h;rw[if_pos rfl]
   ·rw[Cw _ _ _ _ hlen,if_neg (λe=>hj q (by rw[htk];simp) e.symm)]
    exact h6 j λq' hq'=>hj q' (by rw[htk];simp[hq'])) ⟨x6,x10,_,rfl,rfl,m_ hp1 m,by simp,λj _=>by
     by_cases hj:j<m
     ·rw[ym _ _ (by simp[hj])];simp
     ·simp[g,List.getD_eq_getElem?_getD,hj]⟩
 have hil:(e8 (dk ls)).length=ls.length:=by simp[e8,dk]
 rw[hil,List.take_length] at h5 h6
 exact⟨y6,y10,ms,by rw[h1,h2,h3],h4,h5,h6⟩
end
end Fw.E
namespace Fw.E
open PySem Fw Fw.H
seal RS.tY
inductive Et(p:Int)(w:Nat)(lines:List (List Int))(ws:List Int)(μ:ag):RS→Prop where
 | turn (c:T) (tv:List Int) (h:Rw p w tv) (h1:∀l∈lines,p ∣ dot l tv) (h2:p ∣ dot ws tv-1):Et p w lines ws μ (.rt (.box [.inl (.str "turn"),.inl (tu tv)]) (μ++[(true,c)]))
 | sum (c:T) (ms:List Int) (h:Rw p lines.length ms) (h1:∀j,j<w→p ∣ dot ms (col lines j)-g ws j):Et p w lines ws μ (.rt (.box [.inl (.str "sum"),.inr (μ.length+1)]) (μ++[(true,c),(true,li ms)]))
section
variable{p:Int}{w:Nat}{lines:List (List Int)}{ws:List Int}
theorem Hl{raw:List (List Int)}(hP:lQ p)(hrw:∀l∈raw,l.length=w)(Es:raw.map (mdl p)=lines)(hw:Rw p w ws)(hn:lines.length≤200)(hw2:w≤100)(x:SV)(μ:ag)(hx:∀l,rd (μ++l) x=some (.lst (raw.map tu))) :
  Et p w lines ws μ (oF (starts 11 [.val (.int p),.val (.int w),x,.val (tu ws)]) μ):=by
 have hb:=hP.pos
 have hp0:0<p:=Int.lt_of_lt_of_le (by decide) hb.1
 have hl:∀l∈lines,Rw p w l:=λl h=>by
  rw[← Es] at h
  obtain⟨r,hr,rfl⟩:=List.mem_map.mp h
  exact Qc hp0 (hrw r hr)
 have hx0:rd μ x=some (.lst (raw.map tu)):=by simpa using hx []
 have hlen:=yp hx0
 rw[List.length_map,show raw.length=lines.length by rw[← Es,List.length_map]] at hlen
 unfold oF
 simp only[wk,gg,kL,B3,fb,List.map_cons,List.map_nil,List.length_cons,List.length_nil,List.cons_append,List.nil_append,Nat.reduceAdd,Nat.reduceSub,List.replicate_succ,List.replicate_zero,dz,dy,R.ba,R.bf,R.toS_ok,hlen,Option.map_some,List.set_cons_succ,List.set_cons_zero,RS.cD,tj,xa,eU,sY,toCell_val,nq,tN,jm,Option.bind_some,qp,eB (show (0:Int)≤(w:Int) by lia) (show (w:Int)≤1000000 by lia),if_true,Int.toNat_natCast]
 obtain⟨y6,h1⟩:=yq hP hrw Es hw hn hw2 x μ hx (λ_=>True) (λ_=>trivial) (some (.val (.int lines.length))) none none none none none
 rw[h1,RS.cD]
 clear h1
 have Hm:∀r∈(List.range w).map λj=>aug w lines ws j,Rw p (lines.length+1+w) r:=λr hr=>by
  obtain⟨j,_,rfl⟩:=List.mem_map.mp hr
  exact MZ (by lia) hl hw j
 obtain⟨ls,ns,h2,E,_⟩:=zY (m:=lines.length) hP (L:=lines.length+1+w) (by lia) (by lia) ((List.range w).map λj=>aug w lines ws j) Hm (by simp;lia) (.cel μ.length) (μ++[(true,.lst (((List.range w).map λj=>aug w lines ws j).map li))]) (λl=>by simp)
 generalize hc:T.lst (((List.range w).map λj=>aug w lines ws j).map li)=c at h2 ⊢
 (try simp_all! only[]);simp only[gg,kL,fb,iw,bH,eU,lY,List.set_cons_succ,List.set_cons_zero,dz,dy,R.ba,R.bf,R.toS_ok,h2,R.eK,RS.cD,nq,xh,kK,s_,jm,Option.bind_some,pK,Cd,Option.map_some,i5]
 refine mr (P:=λr=>Et p w lines ws μ (r.seq (aA (aE 9 (dP (pH oq [dC (.int 0)] (ae 4))))
  (aA (eL (kT (aF (ae 7) (dC (.int 0)))) (b4 [6,10]) (dQ 9 (ae 6) (aF (ae 10) (ae 4)))) (aS (rX [dC (.str "sum"),ae 9]))))))
  (λi e μ'=>∃y8,e=[some (.val (.int p)),some (.val (.int w)),some x,some (.val (tu ws)),some (.val (.int lines.length)),some (.cel μ.length),y6,some (.val (.tup [.dct (dk ls),.lst (ns.map li)])),y8,none,none]∧μ'=μ++[(true,c)]∧∀r∈ns.take i,g r lines.length=0)
  ?_ ?_ ?_ ⟨none,rfl,rfl,by simp⟩
 ·intro i e μ' _;trivial
 ·rintro i t e μ' ht ⟨y8,rfl,rfl,hz⟩
  rw[List.getElem?_map] at ht
  obtain⟨r,hr,rfl⟩:=Option.map_eq_some_iff.mp ht
  have hm:r∈ns:=List.mem_of_getElem? hr
  have hR:=E.rn r hm
  have ha:=atn (r:=r) (k:=lines.length) (by rw[hR.len];lia)
  refine⟨_,mf _ _ _,?_⟩
  by_cases e0:g r lines.length=0
  ·(try simp_all! only[]);simp[ha,e0]
   intro r' hr'
   rw[List.take_add_one,hr] at hr'
   rcases List.mem_append.mp hr' with h|h
   ·exact hz r' h
   ·simp at h;subst h;exact e0
  ·have gb:=hR.g0 (p:=p) (by lia) lines.length
   obtain⟨y,ho,y0,y1,yz⟩:=Cu hP 1 (g r lines.length) (μ++[(true,c)]) (by rw[Int.emod_eq_of_lt gb.1 gb.2];exact e0)
   have hR2:Rw p w (r.drop (lines.length+1)):=by
    have:=hR.drop (k:=lines.length+1)
    rwa [show lines.length+1+w-(lines.length+1)=w by lia] at this
   have ht2:=uW (p:=p) (L:=w) (by lia) (by lia) y (r.drop (lines.length+1)) (μ++[(true,c)]) hR2 (by lia)
   have Qe:=VG r ((lines.length:Int)+1) (by lia) (by rw[hR.len];lia)
   rw[show ((lines.length:Int)+1).toNat=lines.length+1 by lia] at Qe
   have e1:(g r lines.length==0)=false:=by simpa using e0
   have tl:=told (by lia) E hm hw.len λl h=>(hl l h).len
   obtain⟨t,hts⟩:∃t,g r lines.length-dot ws (r.drop (lines.length+1))=p*t:=tl.2
   obtain⟨s,hs⟩:∃s,y*g r lines.length-1=p*s:=Int.dvd_of_emod_eq_zero yz
   have Qf:Et p w lines ws μ (.rt (.box [.inl (.str "turn"),.inl (tu (tm p y (r.drop (lines.length+1))))]) (μ++[(true,c)])):=by
    refine .turn c _ (Ct (by lia) y hR2.len) (λl h=>?_) ?_
    ·obtain⟨u,hu⟩:=uV p y (r.drop (lines.length+1)) l
     obtain⟨v,hv⟩:=tl.1 l h
     rw[hu,hv]
     exact⟨y*v+u,by grind⟩
    ·obtain⟨u,hu⟩:=uV p y (r.drop (lines.length+1)) ws
     rw[hu]
     exact⟨s-y*t+u,by grind⟩
   have hb2:fNe (.int (g r lines.length)) (.int 0)=some (.bl true):=by rw[pJ,e1];rfl
   have goal:∀(e:Slots),slot e 0=some (.val (.int p))→slot e 4=some (.val (.int lines.length))→slot e 8=some (.val (li r)) →
     sIf (ai fNe (aF (ae 8) (ae 4)) (dC (.int 0))) (aS (rX [(dC (.str "turn")),(dUn eZ (aB (cal (fnV 3 kY)) [(ae 0),(aB (cal (fnV 5 oE)) [(ae 0),(dC (.int 1)),(aF (ae 8) (ae 4))]),(yW (ae 8) (some (ai bD (ae 4) (dC (.int 1)))) none)]))])) dA e (μ++[(true,c)]) =
     .rt (.box [.inl (.str "turn"),.inl (tu (tm p y (r.drop (lines.length+1))))]) (μ++[(true,c)]):=λe q0 q4 q8=>by
    (try simp_all! only[]);simp only[AL,pG,kK,fb,s_,q0,q4,q8,R.ba,R.bf,R.toS_ok,jm,Option.bind_some,lZ,ha,Option.map_some,pF,hb2,jn,if_true,xf,xb,bH,eU,w8,iw,lY,ho,R.eK,sC,ni,nh,yR,qp,pE,Qe,ht2,ot,boxed]
   rw[goal _ rfl rfl rfl,Ji]
   exact Qf
 ·rintro e μ' ⟨y8,rfl,rfl,hz⟩
  rw[List.length_map,List.take_length] at hz
  rw[RS.cD,gg,Hj oq 9 4 _ _ (lines.length:Int) _ rfl (rep0 lines.length (by lia)),RS.cD]
  obtain⟨z6,z10,ms,h3,h4,h5,h6⟩:=JU (p:=p) (L:=lines.length+1+w) (m:=lines.length) (by lia) E.nd E.key E.rl (by lia) (by lia) (λ_=>True) (λ_=>trivial) μ (true,c) (some (.val (.int p))) (some (.val (.int w))) (some x) (some (.val (tu ws))) (some (.cel μ.length)) y6 (some (.val (.tup [.dct (dk ls),.lst (ns.map li)]))) y8 none
  have Ky:(μ++[(true,c)]).length=μ.length+1:=by simp
  have hap:μ++[(true,c)]++[(true,li (List.replicate lines.length 0))]=μ++[(true,c),(true,li (List.replicate lines.length 0))]:=by simp
  rw[Ky,hap]
  (try simp_all! only[]);simp only[gg,nq,qx,kK,fb,s_,List.set_cons_succ,List.set_cons_zero,dz,dy,R.ba,R.bf,R.toS_ok,jm,Option.bind_some,pK,zh,Option.map_some,xn]
  rw[h3,RS.cD]
  (try simp_all! only[]);simp only[xf,xb,bH,eU,s_,fb,dz,dy,R.ba,R.bf,R.toS_ok,boxed,Option.map_some]
  exact .sum c ms h4 λj hj=>M0 (by lia) E hz h4.len h5 h6 j hj
theorem JV(hP:lQ p)(hl:∀l∈lines,Rw p w l)(hw:Rw p w ws)(hn:lines.length≤100)(hw2:w≤100)(x:SV)(μ:ag)(hx:∀l,rd (μ++l) x=some (.lst (lines.map tu))) :
  Et p w lines ws μ (oF (starts 11 [.val (.int p),.val (.int w),x,.val (tu ws)]) μ):=Hl hP (λl h=>(hl l h).1) (Hi hl) hw (by lia) hw2 x μ hx
end
end Fw.E
namespace Fw.E
open PySem Fw Fw.H
def less(n:Int)(v l:List Int):List Int:=(v.zip l).map λq=>q.1-n*q.2
theorem u0(n:Int):∀(v l t:List Int),v.length=l.length→dot (less n v l) t=dot v t-n*dot l t
 | [],l,t,h=>by cases l with
  | nil=>simp[less]
  | cons x l=>simp at h
 | a::v,[],t,h=>by simp at h
 | a::v,b::l,[],h=>by simp[less]
 | a::v,b::l,c::t,h=>by
  have e:less n (a::v) (b::l)=(a-n*b)::less n v l:=rfl
  rw[e,ck,ck,ck,u0 n v l t (by simpa using h)]
  grind
theorem Bx(n:Int):∀(v l:List Int) (j:Nat),v.length=l.length→g (less n v l) j=g v j-n*g l j
 | [],l,j,h=>by cases l with
  | nil=>simp[less,g]
  | cons x l=>simp at h
 | a::v,[],j,h=>by simp at h
 | a::v,b::l,0,h=>by simp[less,g]
 | a::v,b::l,j+1,h=>by
  have e:less n (a::v) (b::l)=(a-n*b)::less n v l:=rfl
  rw[e,e_,e_,e_]
  exact Bx n v l j (by simpa using h)
theorem yr(p:Int):∀(v t:List Int),(∀j,j<v.length→p ∣ g v j)→p ∣ dot v t
 | [],t,_=>⟨0,by simp⟩
 | a::v,[],_=>⟨0,by simp⟩
 | a::v,b::t,h=>by
  rw[ck]
  have h0:=h 0 (by simp)
  rw[iZ] at h0
  obtain⟨s,hs⟩:=h0
  obtain⟨u,hu⟩:=yr p v t λj hj=>by have:=h (j+1) (by simp;lia);rwa [e_] at this
  exact⟨s*b+u,by rw[hs,hu];grind⟩
theorem zZ(p:Int)(w:Nat)(t:List Int):∀(lines:List (List Int)) (ms v:List Int),ms.length=lines.length→(∀l∈lines,l.length=w)→v.length=w→(∀j,j<w→p ∣ dot ms (col lines j)-g v j)→(∀l∈lines,p ∣ dot l t)→p ∣ dot v t
 | [],ms,v,_,_,hv,h,_=>yr p v t λj hj=>by
  obtain⟨s,hs⟩:=h j (by lia)
  rw[show col ([]:List (List Int)) j=[] from rfl,G7] at hs
  exact⟨-s,by rw[Int.mul_neg];lia⟩
 | l::lines,[],v,h,_,_,_,_=>by simp at h
 | l::lines,m::ms,v,hm,hl,hv,h,ht=>by
  have hl0:=hl l (by simp)
  have ih:=zZ p w t lines ms (less m v l) (by simpa using hm) (λl' h'=>hl l' (by simp[h'])) (by simp[less,hv,hl0]) (λj hj=>by
   obtain⟨s,hs⟩:=h j hj
   rw[show col (l::lines) j=g l j::col lines j from rfl,ck] at hs
   rw[Bx _ _ _ _ (by lia)]
   exact⟨s,by grind⟩) λl' h'=>ht l' (by simp[h'])
  rw[u0 _ _ _ _ (by lia)] at ih
  obtain⟨s,hs⟩:=ih
  obtain⟨u,hu⟩:=ht l (by simp)
  exact⟨s+m*u,by grind⟩
theorem Hn{p:Int}{w:Nat}{lines:List (List Int)}{ws ms tv:List Int}(hp:1<p)(hl:∀l∈lines,l.length=w)(hw:ws.length=w)(hm:ms.length=lines.length)(h:∀j,j<w→p ∣ dot ms (col lines j)-g ws j)(h1:∀l∈lines,p ∣ dot l tv)(h2:p ∣ dot ws tv-1):False:=by
 obtain⟨a,ha⟩:=zZ p w tv lines ms ws hm hl hw h h1
 obtain⟨b,hb⟩:=h2
 have:p*(a-b)=1:=by grind
 have h3:p ∣ 1:=⟨a-b,this.symm⟩
 have:=Int.le_of_dvd (by lia) h3
 lia
theorem yt:∀(xs ys:List Int) (n:Nat),xs.length=n→ys.length=n→((List.range n).map λi=>g xs i*g ys i).sum=dot xs ys
 | [],ys,n,h,_=>by simp at h;subst h;simp
 | x::xs,[],n,h,h'=>by simp at h h';lia
 | x::xs,y::ys,0,h,_=>by simp at h
 | x::xs,y::ys,n+1,h,h'=>by
  rw[List.range_succ_eq_map,List.map_cons,List.map_map,List.sum_cons,ck,iZ,iZ]
  have e:((λi=>g (x::xs) i*g (y::ys) i) ∘ Nat.succ)=λi=>g xs i*g ys i:=by funext i;show g (x::xs) (i+1)*g (y::ys) (i+1)=_;rw[e_,e_]
  rw[e,yt xs ys n (by simpa using h) (by simpa using h')]
theorem M4{p:Int}{w:Nat}{a b:List Int}(ha:Rw p w a)(hb:Rw p w b)(h:∀j,j<w→g a j=g b j):a=b:=by
 refine List.ext_getElem (by rw[ha.len,hb.len]) λi h1 h2=>?_
 have:=h i (by rw[← ha.len];exact h1)
 rwa [ym a i h1,ym b i h2] at this
theorem nP(n:Nat):gJ 0 n=(List.range n).map λ(i:Nat)=>(i:Int):=by simp[gJ]
theorem Rw.snoc{p:Int}{n:Nat}{r:List Int}{a:Int}(h:Rw p n r)(h0:0≤a)(h1:a<p):Rw p (n+1) (r++[a]) :=
 Rw.append h (k:=1) ⟨rfl,by simp;exact h0,by simp;exact h1⟩
theorem JW{p n:Int}{x t r:List Int}(hl:x.length=t.length):p ∣ dot r (sub p n x t)-(dot r x-n*dot r t):=by
 obtain⟨k,hk⟩:=sO p n x t r hl
 rw[hk]
 exact⟨k,by grind⟩
def cols(w:Nat)(lines:List (List Int)):List (List Int):=(List.range w).map λj=>col lines j
end Fw.E
namespace Fw.F
open PySem Fw Fw.H Fw.E
noncomputable abbrev Rows := List (Int × List Int)
def rt(q:Int×List Int):T:=.tup [.int q.1,tu q.2]
def tb(p:Int)(w:Nat)(rows:Rows):T:=.tup [.int p,.int w,.tup (rows.map rt)]
structure Tbl(p:Int)(w:Nat)(rows:Rows):Prop where
 pr:lQ p
 w0:0<w
 w1:w≤12
 n:rows.length≤24
 li:∀q∈rows,Rw p w q.2
def kX:DS :=
 (aS (ai aL (dUn ma (br (me (ae 1) (ae 2)) [none,none] (b4 [0,1]) (dC (.bl true)) (ai aM (ae 0) (ae 1)))) (ae 0)))
def cm:FN:=fnV 3 kX
theorem CC(xs ys:List Int):((xs.zip ys).map λq=>q.1*q.2).sum=dot xs ys:=by
 induction xs generalizing ys with
 | nil=>rfl
 | cons x xs ih =>
  cases ys with
  | nil=>rfl
  | cons y ys=>simp[dot,ih]
theorem z_(p:Int)(xs ys:List Int)(x y:SV)(μ:ag)(hp:0<p)(hx:∀a∈xs,0≤a∧a<1000)(hl:xs.length≤1000)(h1:(rd μ x).bind bw=some (xs.map T.int))(h2:(rd μ y).bind bw=some (ys.map T.int)) :
  cm [.val (.int p),x,y] μ = .ok (.val (.int (dot xs ys%p))) μ:=by
 unfold cm kX
 simp[h1,h2]
 rw[gC,bE _ (λq:Int×Int => .int (q.1*q.2)) (by simp)]
 ·rw[R.eK,R.bf,if_pos (by simp[szL];lia)]
  simp only[R.bf,jm,pE]
  rw[mq,CC]
  simp[hp]
 ·rintro⟨a,b⟩ hq
  have hm:=hx a (List.of_mem_zip hq).1
  refine⟨_,rfl,?_⟩
  have:aM (.int a) (.int b)=some (.int (a*b)):=ib _ _ (by lia) (by lia)
  simp[this]
def parts(p:Int)(rows:Rows)(fs:List Int):List Int:=rows.map λq=>dot q.2 fs%p
def fK(rows:Rows)(i:Nat):Int×List Int:=rows.getD i (0,[])
def rowsOf(rows:Rows)(eo:List Int):List Nat:=(List.range rows.length).filter λi=>decide ((fK rows i).1∈eo)
theorem enum_rows(rows:Rows):jt 0 (rows.map rt)=(List.range rows.length).map λ(i:Nat) => .tup [.int (i:Int),rt (fK rows i)]:=by
 apply List.ext_getElem?
 intro i
 rw[FZ,List.getElem?_map,List.getElem?_map]
 by_cases h:i<rows.length
 ·rw[List.getElem?_range h,List.getElem?_eq_getElem h]
  simp[fK,h]
 ·rw[List.getElem?_eq_none (by lia),List.getElem?_eq_none (by simp;lia)]
  rfl
theorem Ho(μ:ag)(t:T):gc μ.length (.cel μ.length) (μ++[(true,t)]) = .ok (.cel μ.length) (μ++[(true,t)]):=by
 unfold gc
 simp
theorem CD(μ:ag)(t:T):ice μ.length (.cel μ.length) (μ++[(true,t)]) = .ok (.val t) μ:=by
 unfold ice
 rw[AS (b:=true) (t:=t) (by simp),R.bf]
 simp
def nums(is:List Nat):List Int:=is.map λ(i:Nat)=>(i:Int)
theorem u4(is:List Nat):(is.map λ(i:Nat)=>T.int (i:Int))=(nums is).map T.int:=by simp[nums]
end Fw.F
namespace Fw
open PySem Fw Fw.H Fw.E
theorem CG:fEq (.lst []) (.lst [])=some (.bl true):=tE [] []
theorem JX:fNe (.lst []) (.lst [])=some (.bl false):=tG [] []
theorem M5(x:SV)(μ:ag):R.ok x (μ.take μ.length)=R.ok x μ:=by rw[List.take_length]
def stw:=And.intro @gg <| And.intro @kL <| And.intro @xf <| And.intro @AL <| And.intro @FD <| And.intro @IT <| And.intro @tM <| And.intro @Jl <| And.intro @DF <| And.intro @rF <| And.intro @t6 <| And.intro @nq <| And.intro @tj <| And.intro @w8 <| And.intro @pG <| And.intro @fb <| And.intro @s_ <| And.intro @iw <| And.intro @bH <| And.intro @eU <| And.intro @IC <| And.intro @IB <| And.intro @LX <| And.intro @ID <| And.intro @IE <| And.intro @xa <| And.intro @kK <| And.intro @B3 <| And.intro @FE <| And.intro @sC <| And.intro @nh <| And.intro @ni <| And.intro @xb <| And.intro @xh <| And.intro @tN <| And.intro @AM <| And.intro @IV <| And.intro @F_ <| And.intro @qx <| And.intro @IW <| And.intro @FF <| And.intro @FG <| And.intro @mf <| And.intro @dB <| And.intro @t7 <| And.intro @lY <| And.intro @b9 <| And.intro @mh <| And.intro @mi <| And.intro @wk <| And.intro @dz <| And.intro @dy <| And.intro @Dl <| And.intro @R.toS_ok <| And.intro @jm <| And.intro @mm <| And.intro @Jk <| And.intro @pE <| And.intro @pF <| And.intro @toCell_val <| And.intro @jn <| And.intro @qp <| And.intro @pD <| And.intro @sY <| And.intro @nc <| And.intro @RS.cD <| And.intro @RS.L4 <| And.intro @sD <| And.intro @B6 <| And.intro @B7 <| And.intro @Jg <| And.intro @qo <| And.intro @ot <| And.intro @AG <| And.intro @i5 <| And.intro @xg <| And.intro @Fx <| And.intro @Fy <| And.intro @lZ <| And.intro @pK <| And.intro @Fu <| And.intro @yR <| And.intro @Fq <| And.intro @cx <| And.intro @tq <| And.intro @Fs <| And.intro @ib <| And.intro @i4 <| And.intro @IH <| And.intro @II <| And.intro @IJ <| And.intro @IK <| And.intro @IP <| And.intro @pJ <| And.intro @IQ <| And.intro @IS <| And.intro @tE <| And.intro @tG <| And.intro @CG <| And.intro @JX <| And.intro @M5 <| And.intro @DD <| And.intro @Gb <| And.intro @Jj <| And.intro @AI <| And.intro @AJ <| And.intro @Gd <| And.intro @R.ba <| And.intro @R.bf <| And.intro @R.eK <| And.intro @zh <| And.intro @Cd <| @Jh
def stc:=And.intro @Option.bind_some.{0,0} <| And.intro @Option.map_some.{0,0} <| And.intro @List.map_cons.{0,0} <| And.intro @List.map_nil.{0,0} <| And.intro @List.length_cons.{0} <| And.intro @List.length_nil.{0} <| And.intro @List.cons_append.{0} <| And.intro @List.nil_append.{0} <| And.intro @List.replicate_succ.{0} <| And.intro @List.replicate_zero.{0} <| And.intro @List.set_cons_succ.{0} <| And.intro @List.set_cons_zero.{0} <| And.intro @List.getElem?_cons_zero.{0} <| And.intro @List.getElem?_cons_succ.{0} <| And.intro @List.take_zero.{0} <| And.intro @List.take_nil.{0} <| And.intro @beq_self_eq_true.{0} <| And.intro @if_false.{1} <| And.intro @if_true.{1} <| And.intro @Bool.false_eq_true <| And.intro @Bool.not_true <| @Bool.not_false
end Fw
local macro_rules
  | `(tactic| simp?! only [$ls,*]) => `(tactic| simp (disch := first | decide | omega | assumption) only [Fw.stw, Fw.stc, Nat.reduceAdd, Nat.reduceSub, $ls,*])
namespace Fw
open PySem Fw Fw.H Fw.E
end Fw
local macro_rules
 | `(tactic| simp! only [$ls,*]) => do
  let mut xs:Array (Lean.TSyntax `Lean.Parser.Tactic.simpLemma):=#[]
  for n in "Nx Ny Nz P2 NA P4 NB NC Qu MM JQ KJ ND NF NG NH P5 KL KN MN P6 MO MP P7 NI MQ KO KP HV KQ KR NJ P8 NK NL NM NN MR MS MT FD tM Jl DF rF t6 tj ID FE sC nh ni xb tN AM IV F_ qx dB t7 b9 mh mi wk Dl mm Jk toCell_val qp RS.L4 sD B6 B7 Jg qo ot AG i5 xg Fx Fy lZ pK Fu yR Fq cx tq Fs ib i4 IH II IJ IK IP pJ IQ IS tE tG CG JX M5 DD Gb Jj AI AJ Gd zh Cd Jh".splitOn " " do xs := xs.push (← `(Lean.Parser.Tactic.simpLemma| $(Lean.mkIdent (`Fw ++ n.toName)):term))
  `(tactic| simp (disch := first | decide | omega | assumption) only [$(xs),*, Fw.stc, Nat.reduceAdd, Nat.reduceSub, $ls,*])
local macro_rules
 | `(tactic| dsimp! only [$ls,*]) => do
  let mut xs:Array (Lean.TSyntax `Lean.Parser.Tactic.simpLemma):=#[]
  for n in "KL KN NC Qu P6 NI P7 gg kL xf AL FD IT tM Jl DF rF t6 nq tj w8 pG iw bH eU IC IB LX ID IE xa kK B3 FE sC nh ni xb xh tN AM IV F_ qx IW FF FG mf dB t7 lY b9 mh mi wk Dl R.toS_ok mm Jk pE pF toCell_val qp sY nc RS.cD RS.L4 sD B6 B7 Jg qo ot AG i5 xg Fx Fy lZ pK Fu yR Fq cx tq Fs ib i4 IH II IJ IK IP pJ IQ IS tE tG CG JX M5 DD Gb Jj AI AJ Gd R.ba R.bf R.eK zh Cd Jh".splitOn " " do xs := xs.push (← `(Lean.Parser.Tactic.simpLemma| $(Lean.mkIdent (`Fw ++ n.toName)):term))
  `(tactic| simp (disch := first | decide | omega | assumption) only [$(xs),*, Fw.stc, Nat.reduceAdd, Nat.reduceSub, $ls,*])
namespace Fw.F
open PySem Fw Fw.H Fw.E
def nG:FN:=fnK 11 E.oF
def u5:DS :=
 (aS (br (Cf (aF (ae 0) (dC (.int 2)))) [none,none,some 1] (b4 [0,1]) (ai fIn (aF (ae 1) (dC (.int 0))) (ae 2)) (ae 0)))
def eg:FN:=fnV 2 u5
def k_:DS :=
 (aS (br (h7 (ae 1)) [none,some 0] (aN 0) (dC (.bl true)) (aF (aF (aF (ae 1) (dC (.int 2))) (ae 0)) (dC (.int 1)))))
def df:FN:=fnV 2 k_
def ig:DS :=
 (aS (dUn eZ (br (bx (ae 0)) [none] (aN 0) (dC (.bl true)) (IA (ai fEq (ae 0) (dC (.int 0))) (dC (.int 1)) (dC (.int 0))))))
def bS:FN:=fnV 1 ig
def jO:DS :=
 (aA (aE 2 (aB (cal nG) [(aF (ae 0) (dC (.int 0))),(aF (ae 0) (dC (.int 1))),(aB (cal df) [(ae 0),(ae 1)]),(aB (cal bS) [(aF (ae 0) (dC (.int 1)))])]))
 (aA (sIf (ai fEq (aF (ae 2) (dC (.int 0))) (dC (.str "sum"))) (aS (rX [(dC (.str "open")),(aF (ae 2) (dC (.int 1)))])) dA)
 (aS (rX [(dC (.str "shut")),(aF (ae 2) (dC (.int 1)))]))))
def dS:FN:=fnK 3 jO
def la:DS :=
 (aS (aB (cal dS) [(ae 0),(aB (cal eg) [(ae 0),(ae 1)])]))
theorem wJ{p:Int}{w:Nat}{rows:Rows}(hn:rows.length≤24)(eo:List Int)(y:SV)(μ:ag)(h2:rd μ y=some (.lst (eo.map T.int))) :
  eg [.val (tb p w rows),y] μ = .ok (.val (li (nums (rowsOf rows eo)))) μ:=by
 unfold eg u5 tb
 simp! only[h2]
 rw[enum_rows,pP (λ(i:Nat) => .tup [.int (i:Int),rt (fK rows i)]) (λi=>decide ((fK rows i).1∈eo)) (λ(i:Nat) => .int (i:Int)) (by simp)]
 ·rw[R.eK,R.bf,if_pos (by simp[szL];lia)]
  simp! only[]
  rw[u4]
  rfl
 ·intro i hi
  refine⟨_,dB 0 1 _ _ _,?_,λ_=>?_⟩
  ·simp! only[rt,h2,zi]
  ·simp! only[]
def linesAt(rows:Rows)(is:List Nat):List (List Int):=is.map λi=>(fK rows i).2
theorem Aa{p:Int}{w:Nat}{rows:Rows}(is:List Nat)(hi:∀i∈is,i<rows.length)(hl:is.length≤1000)(y:SV)(μ:ag)(h2:rd μ y=some (li (nums is))) :
  df [.val (tb p w rows),y] μ = .ok (.val (.lst ((linesAt rows is).map tu))) μ:=by
 unfold df k_
 simp! only[h2]
 rw[← u4,bE (λ(i:Nat) => .int (i:Int)) (λ(i:Nat)=>tu (fK rows i).2) (by simp[h2])]
 ·rw[R.eK,R.bf,if_pos (by simp[szL];lia)]
  simp! only[]
  simp[linesAt,Function.comp_def]
 ·intro i hm
  have hlt:=hi i hm
  have a1:atI (rows.map rt) (i:Int)=some (rt (fK rows i)):=by
   rw[jM (by lia) (by lia)]
   simp[fK,hlt]
  refine⟨_,rfl,?_⟩
  unfold tb
  simp! only[a1,rt]
theorem CJ(w:Nat)(h:0<w):eu w 0=1::List.replicate (w-1) 0:=by
 obtain⟨n,rfl⟩:∃n,w=n+1:=⟨w-1,by lia⟩
 simp[eu,List.replicate_succ]
theorem wK(w:Nat)(h:0<w)(h2:w≤1000)(μ:ag):bS [.val (.int w)] μ = .ok (.val (tu (eu w 0))) μ:=by
 unfold bS ig
 have hr:fh (w:Int)=true:=eB (by lia) (by lia)
 dsimp! only[hr]
 rw[js,wm (λk => .int (if k=0 then 1 else 0)) trivial]
 ·rw[R.eK,R.bf,if_pos (by simp[szL];lia)]
  dsimp! only[]
  have e:((gJ 0 (w:Int).toNat).map λk=>T.int (if k=0 then 1 else 0))=(eu w 0).map T.int:=by
   rw[nP,Int.toNat_natCast,CJ w h]
   obtain⟨n,rfl⟩:∃n,w=n+1:=⟨w-1,by lia⟩
   rw[List.range_succ_eq_map]
   simp only[List.map_cons,List.map_map,Nat.add_sub_cancel,List.map_replicate]
   refine congr (congrArg _ rfl) ?_
   refine List.eq_replicate_iff.mpr ⟨by simp,λb hb=>?_⟩
   obtain⟨k,_,rfl⟩:=List.mem_map.mp hb
   show T.int (if ((Nat.succ k:Nat):Int)=0 then 1 else 0)=_
   rw[if_neg (by lia)]
  rw[e]
 ·intro k hk
  refine⟨_,rfl,?_⟩
  dsimp! only[]
  by_cases hk0:k=0
  ·subst hk0;rfl
  ·rw[if_neg (by simpa using hk0),if_neg hk0]
inductive Opened(p:Int)(w:Nat)(lines:List (List Int))(μ:ag):R SV→Prop where
 | JY (c:T) (tv:List Int) (h:Rw p w tv) (h1:∀l∈lines,p ∣ dot l tv) (h2:g tv 0=1):Opened p w lines μ (.ok (.box [.inl (.str "shut"),.inl (tu tv)]) (μ++[(true,c)]))
 | opn (c:T) (ms:List Int) (h:Rw p lines.length ms) (h1:∀j,j<w→p ∣ dot ms (col lines j)-g (eu w 0) j):Opened p w lines μ (.ok (.box [.inl (.str "open"),.inr (μ.length+1)]) (μ++[(true,c),(true,li ms)]))
theorem yu{p:Int}{w:Nat}{rows:Rows}(H:Tbl p w rows){i:Nat}(h:i<rows.length):Rw p w (fK rows i).2:=by
 have:fK rows i=rows[i]:=by simp[fK,h]
 rw[this];exact H.li _ (List.getElem_mem h)
theorem jH{p:Int}{w:Nat}{rows:Rows}(H:Tbl p w rows){is:List Nat}(hi:∀i∈is,i<rows.length):∀l∈linesAt rows is,Rw p w l:=λl hl=>by
 obtain⟨i,hm,rfl⟩:=List.mem_map.mp hl
 exact yu H (hi i hm)
theorem Hq{p:Int}(hp:1<p)(w k:Nat):Rw p w (eu w k):=Rw.set (m_ hp w) (by lia) (by lia)
theorem M6{p x:Int}(hp:1<p)(h0:0≤x)(h1:x<p)(h:p ∣ x-1):x=1:=by
 obtain⟨k,hk⟩:=h
 rcases Int.lt_trichotomy k 0 with z|z|z
 ·have:p*k≤p*(-1):=Int.mul_le_mul_of_nonneg_left (by lia) (by lia)
  lia
 ·subst z;lia
 ·have:p*1≤p*k:=Int.mul_le_mul_of_nonneg_left (by lia) (by lia)
  lia
theorem JZ{p:Int}{w:Nat}{rows:Rows}(H:Tbl p w rows)(is:List Nat)(hi:∀i∈is,i<rows.length)(hl:is.length≤100)(y:SV)(μ:ag)(h2:rd μ y=some (li (nums is))) :
  Opened p w (linesAt rows is) μ (dS [.val (tb p w rows),y] μ):=by
 have hb:=H.pr.pos
 have hp0:0<p:=Int.lt_of_lt_of_le (by decide) hb.1
 have hw:=H.w1
 have e1:=Aa (p:=p) (w:=w) is hi (by lia) y μ h2
 have e2:=wK w H.w0 (by lia) μ
 have hL:=jH H hi
 have hh:=JV H.pr hL (Hq (by lia) w 0) (by simp[linesAt];lia) (by lia) (.val (.lst ((linesAt rows is).map tu))) μ (λ_=>rfl)
 unfold dS jO tb
 unfold tb at e1
 dsimp! only[e1,e2]
 generalize hr:E.oF (starts 11 [.val (.int p),.val (.int w),.val (.lst ((linesAt rows is).map tu)),.val (tu (eu w 0))]) μ=r at hh
 have hf:∀r',r.xi=r'→nG [.val (.int p),.val (.int w),.val (.lst ((linesAt rows is).map tu)),.val (tu (eu w 0))] μ=r':=λr' h=>by
  rw[← h,← hr];rfl
 cases hh with
 | turn c tv h h1 h3 =>
  rw[hf _ rfl]
  have hp0:tv.length=w:=h.1
  have h4:g tv 0=1:=by
   rw[o_ w 0 tv H.w0] at h3
   have:=h.g0 (p:=p) (by lia) 0
   exact M6 (by lia) this.1 this.2 h3
  have s1:((Str.ofString "turn")==(Str.ofString "sum"))=false:=by decide
  dsimp! only[pick,s1]
  exact .JY c tv h h1 h4
 | sum c ms h h1 =>
  rw[hf _ rfl]
  dsimp! only[pick]
  exact .opn c ms h h1
structure Sq(μ:ag)(x:SV)(xs:List Int):Prop where
 len:rY μ x=some (.int xs.length)
 at_:∀k:Int,0≤k→k<xs.length→j5 μ x (.int k)=some (.val (.int (g xs k.toNat)))
 it:(rd μ x).bind bw=some (xs.map T.int)
theorem KU(μ:ag)(xs:List Int):Sq μ (.val (li xs)) xs:=⟨by simp,λk h0 h1=>by rw[lZ,atg h0 h1];rfl,rfl⟩
theorem M7{μ:ag}{k:Nat}{xs:List Int}(h:rd μ (.cel k)=some (li xs)):Sq μ (.cel k) xs :=
 ⟨by rw[yp h];simp,λk h0 h1=>by rw[Cy h,atg h0 h1];rfl,by rw[h];rfl⟩
theorem Ab(p:Int)(w:Nat)(fs:List Int):∀(lines:List (List Int)) (ms v:List Int),ms.length=lines.length→(∀l∈lines,l.length=w)→v.length=w→(∀j,j<w→p ∣ dot ms (col lines j)-g v j)→p ∣ dot ms (lines.map λl=>dot l fs)-dot v fs
 | [],ms,v,hm,_,hv,h=>by
  have e:ms=[]:=List.length_eq_zero_iff.mp (by simpa using hm)
  subst e
  have:=yr p v fs λj hj=>by
   obtain⟨k,hk⟩:=h j (by lia)
   exact⟨-k,by simp[col,dot] at hk;grind⟩
  obtain⟨k,hk⟩:=this
  exact⟨-k,by simp[dot];grind⟩
 | l::lines,[],v,hm,_,_,_=>by simp at hm
 | l::lines,m::ms,v,hm,hl,hv,h=>by
  have hll:=hl l (by simp)
  have ih:=Ab p w fs lines ms (less m v l) (by simpa using hm) (λl' h'=>hl l' (by simp[h'])) (by simp[less,hv,hll]) λj hj=>by
   obtain⟨k,hk⟩:=h j hj
   rw[Bx m v l j (by rw[hv,hll])]
   simp only[col,List.map_cons,dot] at hk
   exact⟨k,by simp only[col];grind⟩
  obtain⟨k,hk⟩:=ih
  rw[u0 m v l fs (by rw[hv,hll])] at hk
  exact⟨k,by rw[List.map_cons,dot];grind⟩
theorem Ac(p:Int):∀(ms xs:List Int),p ∣ dot ms (xs.map λx=>x%p)-dot ms xs
 | [],xs=>⟨0,by simp[dot]⟩
 | m::ms,[]=>⟨0,by simp[dot]⟩
 | m::ms,x::xs=>by
  obtain⟨k,hk⟩:=Ac p ms xs
  obtain⟨t,ht⟩:=md x p
  exact⟨k-m*t,by rw[List.map_cons,dot,dot,ht];grind⟩
theorem toNat_mod(a b:Int)(h:0<b):∃n:Nat,a%b=(n:Int)∧(n:Int)<b:=⟨(a%b).toNat,by have:=Int.emod_nonneg a (show b≠0 by lia);lia,by have:=Int.emod_nonneg a (show b≠0 by lia);have:=Int.emod_lt_of_pos a h;lia⟩
theorem kD{rows:Rows}{eo:List Int}:∀i∈rowsOf rows eo,i<rows.length:=λi hi=>List.mem_range.mp (List.mem_filter.mp hi).1
theorem jI(rows:Rows)(eo:List Int):(rowsOf rows eo).length≤rows.length:=Nat.le_trans (List.length_filter_le _ _) (by simp)
theorem M8{p:Int}{w:Nat}{rows:Rows}(H:Tbl p w rows)(eo:List Int)(y:SV)(μ:ag)(h2:rd μ y=some (li eo)) :
  Opened p w (linesAt rows (rowsOf rows eo)) μ (fnK 2 la [.val (tb p w rows),y] μ):=by
 have hn:=H.n
 have e1:=wJ (p:=p) (w:=w) H.n eo y μ h2
 have ho:=JZ H (rowsOf rows eo) kD (by have:=jI rows eo;lia) (.val (li (nums (rowsOf rows eo)))) μ rfl
 unfold la
 simp! only[e1]
 generalize dS [.val (tb p w rows),.val (li (nums (rowsOf rows eo)))] μ=r at ho
 cases ho with
 | JY c tv h h1 h2=>exact .JY c tv h h1 h2
 | opn c ms h h1=>exact .opn c ms h h1
theorem M9{p:Int}{w:Nat}{rows:Rows}(H:Tbl p w rows)(eo:List Int)(y:SV)(μ:ag)(h2:rd μ y=some (li eo)) :
  (∃tv,fnV 2 la [.val (tb p w rows),y] μ = .ok (.val (.tup [.str "shut",tu tv])) μ∧Rw p w tv∧(∀l∈linesAt rows (rowsOf rows eo),p ∣ dot l tv)∧g tv 0=1) ∨
  ∃ms,fnV 2 la [.val (tb p w rows),y] μ = .ok (.val (.tup [.str "open",li ms])) μ∧Rw p (linesAt rows (rowsOf rows eo)).length ms∧∀j,j<w→p ∣ dot ms (col (linesAt rows (rowsOf rows eo)) j)-g (eu w 0) j:=by
 have h:=M8 H eo y μ h2
 rw[mi] at h
 rw[b9]
 generalize la (starts 2 [.val (tb p w rows),y]) μ=r at h ⊢
 cases r with
 | rt x μ' =>
  rw[B7] at h
  rw[sD]
  generalize hq:R.ok x μ'=q at h
  cases h with
  | JY c tv h h1 h2 =>
   cases hq
   exact .inl ⟨tv,by simp[ice,frz,lW,yP],h,h1,h2⟩
  | opn c ms h h1 =>
   cases hq
   exact .inr ⟨ms,by simp[ice,frz,lW,yP],h,h1⟩
 | nx e μ'=>generalize hq:(RS.nx e μ').xi=q at h;cases h<;>cases hq
 | bk e μ'=>generalize hq:(RS.bk e μ').xi=q at h;cases h<;>cases hq
 | ct e μ'=>generalize hq:(RS.ct e μ').xi=q at h;cases h<;>cases hq
 | err c e μ'=>generalize hq:(RS.err c e μ').xi=q at h;cases h<;>cases hq
 | bad=>generalize hq:RS.bad.xi=q at h;cases h<;>cases hq
end Fw.F
namespace Fw.J
open PySem Fw Fw.H Fw.E Fw.F
def hJ(p:Int)(xs ys:List Int):List Int:=(xs.zip ys).map λq=>(q.1+q.2)%p
theorem qd(p:Int)(xs ys:List Int):hJ p xs ys=sub p (-1) xs ys:=by
 unfold hJ sub
 refine List.map_congr_left λq _=>?_
 rw[show q.1 - -1*q.2=q.1+q.2 by lia]
def Ad:DS :=
 (aS (br (h7 (aF (ae 0) (dC (.int 2)))) [none,some 1,some 0] (aN 0) (dC (.bl true)) (aB (cal cm) [(aF (ae 2) (dC (.int 0))),(aF (ae 0) (dC (.int 1))),(ae 1)])))
theorem J0{p:Int}{w:Nat}{rows:Rows}(H:Tbl p w rows)(fs:List Int)(y:SV)(μ:ag)(h2:(rd μ y).bind bw=some (fs.map T.int)) :
  fnV 2 Ad [.val (tb p w rows),y] μ = .ok (.val (li (parts p rows fs))) μ:=by
 have hb:=H.pr.pos
 have hn:=H.n
 have hw:=H.w1
 have e:cy (λ_=>True) (aN 0) (dC (.bl true)) (aB (cal cm) [(aF (ae 2) (dC (.int 0))),(aF (ae 0) (dC (.int 1))),(ae 1)]) [none,some y,some (.val (.tup [.int p,.int w,.tup (rows.map rt)]))] (rows.map rt) μ = .ok ((parts p rows fs).map T.int) μ:=by
  rw[bE rt (λq:Int×List Int => .int (dot q.2 fs%p)) trivial]
  ·simp[parts,Function.comp_def]
  ·rintro⟨h,l⟩ hq
   refine⟨_,rfl,?_⟩
   have hR:=H.li _ hq
   have:=z_ p l fs (.val (tu l)) y μ (by lia) (λa ha=>⟨hR.2 a ha,by have:=hR.3 a ha;lia⟩) (by have h3:l.length=w:=hR.1;lia) rfl h2
   simp?! only[rt,this]
 have ls:(rows.map rt).length≤szL:=by rw[List.length_map];unfold szL;lia
 unfold Ad tb
 simp?! only[e,ls]
theorem Eu(p m:Int)(rows:Rows)(fs gs:List Int)(h:fs.length=gs.length):parts p rows (sub p m fs gs)=sub p m (parts p rows fs) (parts p rows gs):=by
 unfold parts
 induction rows with
 | nil=>rfl
 | cons q rows ih =>
  rw[List.map_cons,List.map_cons,List.map_cons,ih]
  show _=_::_
  refine congr (congrArg _ ?_) rfl
  obtain⟨t,ht⟩:=sO p m fs gs q.2 h
  show dot q.2 (sub p m fs gs)%p=(dot q.2 fs%p-m*(dot q.2 gs%p))%p
  rw[ht]
  obtain⟨t1,h1⟩:=md (dot q.2 fs) p
  obtain⟨t2,h2⟩:=md (dot q.2 gs) p
  rw[show dot q.2 fs-m*dot q.2 gs+p*t=(dot q.2 fs%p-m*(dot q.2 gs%p))+p*(t+t1-m*t2) by rw[h1,h2];grind,Int.add_mul_emod_self_left]
theorem Ew(p:Int)(rows:Rows)(fs gs:List Int)(h:fs.length=gs.length):parts p rows (hJ p fs gs)=hJ p (parts p rows fs) (parts p rows gs):=by
 rw[qd,qd,Eu p (-1) rows fs gs h]
theorem Hr(p n:Int)(rows:Rows)(fs:List Int):parts p rows (tm p n fs)=tm p n (parts p rows fs):=by
 unfold parts tm
 rw[List.map_map]
 refine List.map_congr_left λq _=>?_
 obtain⟨t,ht⟩:=uV p n fs q.2
 obtain⟨t2,h2⟩:=md (dot q.2 fs) p
 show dot q.2 (List.map (λe=>n*e%p) fs)%p=n*(dot q.2 fs%p)%p
 unfold tm at ht
 rw[ht,show n*dot q.2 fs+p*t=n*(dot q.2 fs%p)+p*(t+n*t2) by rw[h2];grind,Int.add_mul_emod_self_left]
theorem J1{p:Int}{n:Nat}{xs ys:List Int}(hp:0<p)(h1:xs.length=n)(h2:ys.length=n):Rw p n (hJ p xs ys):=by rw[qd];exact yn hp _ h1 h2
end Fw.J
namespace Fw.K
open PySem Fw Fw.H Fw.E Fw.F Fw.J
def Hs:DS :=
 (aA (sIf (ai fLt (ae 1) (fz (ae 0))) (aS (aF (ae 0) (ae 1))) dA)
 (aA (aE 2 (ai bD (ai aM (ae 1) (dC (.int 48271))) (dC (.int 977))))
 (aA (sIf (ai fGt (fz (ae 0)) (dC (.int 0))) (aE 2 (ai bD (ae 2) (ai aM (ai aL (aF (ae 0) (ai aL (ai aM (ae 1) (dC (.int 3))) (fz (ae 0)))) (dC (.int 2147483647))) (dC (.int 40692))))) dA)
 (aS (ai aL (ai aM (ai aL (ai aM (ae 2) (ae 2)) (dC (.int 2147483629))) (dC (.int 69621))) (dC (.int 2147483587)))))))
def nQ:FN:=fnV 3 Hs
theorem Ht{p a b:Int}(hp:p≤97)(h:0≤a∧a<p):aM (.int a) (.int b)=some (.int (a*b)):=ib _ _ (by omega) (by omega)
theorem Hu{k:Int}(h0:0≤k)(h1:k≤1000)(a:Int):-18446744073709551616<k*48271+977+a%2147483647*40692∧k*48271+977+a%2147483647*40692<18446744073709551616:=by omega
theorem Ey{k:Int}(h0:0≤k)(h1:k≤1000):-18446744073709551616<k*48271+977∧k*48271+977<18446744073709551616:=by omega
def Hv:DS:=(aS (ai aL (ai aM (ai aL (ai aM (ae 2) (ae 2)) (dC (.int 2147483629))) (dC (.int 69621))) (dC (.int 2147483587))))
theorem Ae(ns:T)(k y:Int)(h:-18446744073709551616<y∧y<18446744073709551616)(μ:ag):Hv [some (.val ns),some (.val (.int k)),some (.val (.int y))] μ = .rt (.val (.int (y*y%2147483629*69621%2147483587))) μ:=by
 unfold Hv
 have hyy:aM (.int y) (.int y)=some (.int (y*y)):=i4 _ _ h.1 h.2
 have m4:∀a,aM (.int a) (.int 69621)=some (.int (a*69621)):=λa=>i4 _ _ (by decide) (by decide)
 simp?! only[hyy,m4]
theorem EA:Hs=(aA (sIf (ai fLt (ae 1) (fz (ae 0))) (aS (aF (ae 0) (ae 1))) dA)
 (aA (aE 2 (ai bD (ai aM (ae 1) (dC (.int 48271))) (dC (.int 977))))
 (aA (sIf (ai fGt (fz (ae 0)) (dC (.int 0))) (aE 2 (ai bD (ae 2) (ai aM (ai aL (aF (ae 0) (ai aL (ai aM (ae 1) (dC (.int 3))) (fz (ae 0)))) (dC (.int 2147483647))) (dC (.int 40692))))) dA)
 Hv))):=rfl
theorem iu(ns:List Int)(k:Int)(h0:0≤k)(h1:k≤1000):∃c,∀μ,nQ [.val (.lst (ns.map T.int)),.val (.int k)] μ = .ok (.val (.int c)) μ:=by
 unfold nQ
 rw[EA]
 have m1:aM (.int k) (.int 48271)=some (.int (k*48271)):=i4 _ _ (by decide) (by decide)
 by_cases h:k<ns.length
 ·have hl:decide (k<(ns.length:Int))=true:=decide_eq_true h
  exact⟨_,λμ=>by simp?! only[List.length_map,hl,jM h0 h];rfl⟩
 ·have hl:decide (k<(ns.length:Int))=false:=decide_eq_false h
  by_cases h2:0<ns.length
  ·have hp:(0:Int)<ns.length:=Int.ofNat_lt.mpr h2
   have p1:k*3%(ns.length:Int)<ns.length:=Int.emod_lt_of_pos _ hp
   have n0:decide ((ns.length:Int) > 0)=true:=decide_eq_true hp
   have n0':decide (0<(ns.length:Int))=true:=decide_eq_true hp
   obtain⟨a,ht⟩:∃a,atI (ns.map T.int) (k*3%(ns.length:Int))=some (.int a):=⟨_,jM (xs:=ns) (f:=T.int) (Int.emod_nonneg _ (Int.ne_of_gt hp)) p1⟩
   have m3:aM (.int k) (.int 3)=some (.int (k*3)):=i4 _ _ (by decide) (by decide)
   have hmm:aL (.int (k*3)) (.int (ns.length:Int))=some (.int (k*3%(ns.length:Int))):=cx _ _ hp
   have hma:aM (.int (a%2147483647)) (.int 40692)=some (.int (a%2147483647*40692)):=i4 _ _ (by decide) (by decide)
   exact⟨_,λμ=>by simp?! only[List.length_map,hl,m1,m3,n0,n0',hmm,ht,hma,Ae _ _ _ (Hu h0 h1 a)];rfl⟩
  ·have hp:¬ (0:Int)<ns.length:=λh=>h2 (Int.ofNat_lt.mp h)
   have n0:decide ((ns.length:Int) > 0)=false:=decide_eq_false hp
   have n0':decide (0<(ns.length:Int))=false:=decide_eq_false hp
   exact⟨_,λμ=>by simp?! only[List.length_map,hl,m1,n0,n0',Ae _ _ _ (Ey h0 h1)];rfl⟩
def CK:DS :=
 (aA (aE 2 (ai aL (ai aM (ai bD (ai aL (ae 0) (dC (.int 2147483647))) (dC (.int 1))) (ai bD (dC (.int 48271)) (ai aM (ae 1) (ae 1)))) (dC (.int 2147483629))))
 (aS (ai aL (ai aM (ai aL (ai aM (ae 2) (ai bD (ae 2) (ai aM (dC (.int 977)) (ae 1)))) (dC (.int 2147483587))) (dC (.int 40692))) (dC (.int 2147483399)))))
def u6:FN:=fnV 3 CK
theorem Hw(c k:Int)(h0:0≤k)(h1:k≤1000):∃d,∀μ,u6 [.val (.int c),.val (.int k)] μ = .ok (.val (.int d)) μ:=by
 unfold u6 CK
 have m1:aM (.int k) (.int k)=some (.int (k*k)):=i4 _ _ (by omega) (by omega)
 have m2:∀b,aM (.int (c%2147483647+1)) (.int b)=some (.int ((c%2147483647+1)*b)):=λb=>ib _ _ (by omega) (by omega)
 have m3:aM (.int 977) (.int k)=some (.int (977*k)):=ib _ _ (by decide) (by decide)
 have m4:∀a b,aM (.int (a%2147483629)) (.int b)=some (.int (a%2147483629*b)):=λa b=>ib _ _ (by omega) (by omega)
 have m5:∀a,aM (.int (a%2147483587)) (.int 40692)=some (.int (a%2147483587*40692)):=λa=>i4 _ _ (by decide) (by decide)
 exact⟨_,λμ=>by simp?! only[m1,m2,m3,m4,m5];rfl⟩
def qe:DS:=(sIf (ae 3) (aA (cu (ae 4) (ai aL (ae 0) (ae 1)))
 (aE 0 (ai d_ (ae 0) (ae 1)))) (cu (ae 4) (ai aL (ai d_ (aB (cal u6) [(ae 0),(ae 5)]) (dC (.int 7))) (ae 1))))
def kE:DS :=
 (aA (aE 4 (dP (eY [])))
 (aA (eL (bx (ae 2)) (aN 5) qe)
 (aS (ae 4))))
theorem u7(c base:Int)(n:Nat)(bd:Bool)(hm:0<base)(hm2:base<1000000)(hn:n≤1000)(μ:ag) :
  ∃r,kE (starts 6 [.val (.int c),.val (.int base),.val (.int n),.val (.bl bd)]) μ = .rt (.cel μ.length) (μ++[(true,li r)])∧Rw base n r:=by
 have rn:fh (n:Int)=true:=eB (by omega) (by omega)
 obtain⟨e',μ',h1,x0,x5,r,rfl,rfl,hR⟩:=ic (same:=λ_=>True) (b:=aN 5) (ts:=bW 0 (n:Int).toNat) (body:=qe)
  (I:=λi e μ1=>∃x0 x5 r,e=[some (.val (.int x0)),some (.val (.int base)),some (.val (.int n)),some (.val (.bl bd)),some (.cel μ.length),x5]∧μ1=μ++[(true,li r)]∧Rw base i r)
  (λ_ _ _ _=>trivial) (λi t e μ1 ht ax=>by
   obtain⟨x0,x5,r,he,hμ,hR⟩:=ax
   subst he hμ
   obtain⟨k,rfl,hi,hk⟩:=nC ht
   have hi:i<n:=by simpa using hi
   have hl:(r.map T.int).length<szL:=by have:=hR.1;unfold szL;simp;omega
   generalize hq:(true,li r)=q
   have hls:qq (.cel μ.length) (μ++[q])=some ():=by rw[← hq];exact zg _ _ _ _
   have hap:∀t,appendAt (.cel μ.length) t (μ++[q])=some (μ++[(true,T.lst (r.map T.int++[t]))]):=λt=>by rw[← hq];exact tV _ _ _ _ hl
   have m8:∀a:Int,aL (.int a) (.int base)=some (.int (a%base)):=λa=>cx _ _ (by omega)
   have hdiv:∀a:Int,d_ (.int a) (.int base)=some (.int (a / base)):=λa=>tq _ _ (by omega) (by omega)
   cases bd with
   | true =>
    refine⟨_,_,_,rfl,?_,x0 / base,some (.val (.int k)),r++[x0%base],rfl,rfl,E.Rw.snoc hR (Int.emod_nonneg _ (by omega)) (Int.emod_lt_of_pos _ hm)⟩
    unfold qe
    simp?! only[hls,hap,m8,hdiv]
    simp
   | false =>
    obtain⟨d,hd⟩:=Hw x0 k (by omega) (by omega)
    refine⟨_,_,_,rfl,?_,x0,some (.val (.int k)),r++[d / 7%base],rfl,rfl,E.Rw.snoc hR (Int.emod_nonneg _ (by omega)) (Int.emod_lt_of_pos _ hm)⟩
    unfold qe
    simp?! only[hd,hls,hap,m8]
    simp)
  (e:=[some (.val (.int c)),some (.val (.int base)),some (.val (.int n)),some (.val (.bl bd)),some (.cel μ.length),none]) (μ:=μ++[(true,li [])]) ⟨c,none,[],rfl,rfl,rfl,by simp,by simp⟩
 rw[eE,Int.toNat_natCast] at hR
 refine⟨r,?_,hR⟩
 unfold kE
 simp?! only[rn]
 rw[show (true,T.lst [])=(true,li []) from rfl,h1]
 simp?! only[]
theorem Hx(c base:Int)(n:Nat)(bd:Bool)(hm:0<base)(hm2:base<1000000)(hn:n≤1000)(μ:ag) :
  ∃r,fnV 6 kE [.val (.int c),.val (.int base),.val (.int n),.val (.bl bd)] μ = .ok (.val (li r)) μ∧Rw base n r:=by
 obtain⟨r,h,hR⟩:=u7 c base n bd hm hm2 hn μ
 exact⟨r,by rw[b9,h,sD,CD],hR⟩
theorem Hy(c base:Int)(n:Nat)(bd:Bool)(hm:0<base)(hm2:base<1000000)(hn:n≤1000)(μ:ag) :
  ∃r,fnD 6 kE [.val (.int c),.val (.int base),.val (.int n),.val (.bl bd)] μ = .ok (.cel μ.length) (μ++[(true,li r)])∧Rw base n r:=by
 obtain⟨r,h,hR⟩:=u7 c base n bd hm hm2 hn μ
 exact⟨r,by rw[mh,h,B6,Ho],hR⟩
def pb:FN:=fnD 6 kE
def M_:DS:=(kM (ai fLt (fz (ae 10)) (ae 5)) (cu (ae 10) (ai aL (ai aM (aF (ae 10) (dUn tw (dC (.int 1)))) (ae 11)) (ae 2))))
def rB:DS:=(aA (aE 3 (aB (cal nQ) [(ae 0),(ai bD (ai bD (ae 1) (dC (.int 1))) (ae 9))]))
 (aA (aE 10 (aB (cal pb) [(ai d_ (ae 3) (dC (.int 100))),(ae 2),(ae 5),(ae 4)]))
 (aA (sIf (ai fEq (ai aL (ai d_ (ae 3) (dC (.int 10))) (dC (.int 5))) (dC (.int 1))) (aA (aE 11 (ai aL (ai d_ (ae 3) (dC (.int 100))) (ae 2)))
 (aA (aE 10 (dP (eY [(dC (.int 1))])))
 M_)) dA)
 (cu (ae 8) (lX [(ai aL (ae 3) (ae 7)),(dUn eZ (ae 10))])))))
def CL:DS :=
 (aA (aE 3 (aB (cal nQ) [(ae 0),(ae 1)]))
 (aA (aE 4 (ai fEq (ai aL (ae 3) (dC (.int 2))) (dC (.int 0))))
 (aA (aE 5 (ai bD (dC (.int 1)) (ai aL (ai d_ (ae 3) (dC (.int 2))) (dC (.int 4)))))
 (aA (aE 6 (ai aL (ai d_ (ae 3) (dC (.int 8))) (dC (.int 7))))
 (aA (aE 7 (ai bD (dC (.int 1)) (ai aL (ai d_ (ae 3) (dC (.int 56))) (dC (.int 5)))))
 (aA (sIf (ai fEq (ai aL (ai d_ (ae 3) (dC (.int 280))) (dC (.int 8))) (dC (.int 5))) (aA (aE 5 (ai bD (ae 5) (dC (.int 2))))
 (aE 6 (ai bD (ae 6) (dC (.int 5))))) dA)
 (aA (aE 8 (dP (eY [])))
 (aA (eL (bx (ae 6)) (aN 9) rB)
 (aS (lX [(ae 2),(ae 5),(dUn eZ (ae 8))]))))))))))
theorem Na{p x:Int}(hp:2≤p∧p≤97)(hx:0≤x∧x<p)(w:Nat)(hw:0<w∧w≤12)(a0 a1 a3 a4 a6 a7 a8 a9:Option SV)(k:Nat)(μ:ag)(h:μ[k]?=some (true,li [1])) :
  ∃l,M_ [a0,a1,some (.val (.int p)),a3,a4,some (.val (.int w)),a6,a7,a8,a9,some (.cel k),some (.val (.int x))] μ = .nx [a0,a1,some (.val (.int p)),a3,a4,some (.val (.int w)),a6,a7,a8,a9,some (.cel k),some (.val (.int x))] (μ.set k (true,li l))∧Rw p w l:=by
 have hp0:0<p:=by omega
 have hk:k<μ.length:=(List.getElem?_eq_some_iff.mp h).1
 have m8:∀a:Int,aL (.int a) (.int p)=some (.int (a%p)):=λa=>cx _ _ hp0
 refine t4 (P:=λr=>∃l,r = .nx [a0,a1,some (.val (.int p)),a3,a4,some (.val (.int w)),a6,a7,a8,a9,some (.cel k),some (.val (.int x))] (μ.set k (true,li l))∧Rw p w l) (by rintro⟨l,h,_⟩;cases h)
  (λm e μ1=>∃(l:List Int) (i:Nat),e=[a0,a1,some (.val (.int p)),a3,a4,some (.val (.int w)),a6,a7,a8,a9,some (.cel k),some (.val (.int x))]∧μ1=μ.set k (true,li l)∧Rw p i l∧0<i∧i≤w∧m=w-i) ?_ (w-1) _ μ ⟨[1],1,rfl,?_,⟨rfl,by simp,by simp;omega⟩,by omega,by omega,rfl⟩
 ·rintro m e μ1 ⟨l,i,rfl,rfl,hR,hi0,hiw,rfl⟩
  have hg:(μ.set k (true,li l))[k]?=some (true,li l):=by simp[hk]
  have hlen:rY (μ.set k (true,li l)) (.cel k)=some (.int i):=by
   have h3:rd (μ.set k (true,li l)) (.cel k)=some (li l):=by rw[mm,hg];rfl
   have:=(M7 h3).len
   rw[hR.1] at this;exact this
  refine⟨decide ((i:Int)<w),μ.set k (true,li l),by simp?! only[hlen],?_⟩
  by_cases hlt:i<w
  ·rw[if_pos (decide_eq_true (by omega))]
   have De:j5 (μ.set k (true,li l)) (.cel k) (.int (-1))=some (.val (.int (g l (i-1)))):=by
    have h3:rd (μ.set k (true,li l)) (.cel k)=some (li l):=by rw[mm,hg];rfl
    rw[Cy h3]
    show (atI (l.map T.int) (-1)).map SV.val=_
    have hl:=hR.1
    have e1:ixN (l.map T.int).length (-1)=some (i-1):=by
     unfold ixN
     rw[List.length_map,hl,if_neg (by omega),if_pos (by omega)]
     congr 1
     omega
    unfold atI
    rw[e1,Option.bind_some,List.getElem?_map,List.getElem?_eq_getElem (by omega),ym _ _ (by omega)]
    rfl
   have b1:=hR.g0 hp0 (i-1)
   have hmu:aM (.int (g l (i-1))) (.int x)=some (.int (g l (i-1)*x)):=Ht hp.2 b1
   have hls:qq (.cel k) (μ.set k (true,li l))=some ():=nj hg
   have hap:appendAt (.cel k) (.int (g l (i-1)*x%p)) (μ.set k (true,li l))=some (μ.set k (true,li (l++[g l (i-1)*x%p]))):=by
    rw[append_at hg (by rw[List.length_map,hR.1];unfold szL;omega),List.set_set]
    simp[li]
   have eb:(cu (ae 10) (ai aL (ai aM (aF (ae 10) (dUn tw (dC (.int 1)))) (ae 11)) (ae 2))) [a0,a1,some (.val (.int p)),a3,a4,some (.val (.int w)),a6,a7,a8,a9,some (.cel k),some (.val (.int x))] (μ.set k (true,li l)) = .nx [a0,a1,some (.val (.int p)),a3,a4,some (.val (.int w)),a6,a7,a8,a9,some (.cel k),some (.val (.int x))] (μ.set k (true,li (l++[g l (i-1)*x%p]))):=by
    simp?! only[hls,De,hmu,m8,hap]
   rw[eb,Ce]
   exact⟨w-(i+1),Nat.sub_lt_sub_left hlt (Nat.lt_succ_self i),_,i+1,rfl,rfl,E.Rw.snoc hR (Int.emod_nonneg _ (Int.ne_of_gt hp0)) (Int.emod_lt_of_pos _ hp0),Nat.succ_pos i,hlt,rfl⟩
  ·rw[if_neg (by simp;omega)]
   have:i=w:=by omega
   subst this
   exact⟨l,rfl,hR⟩
 ·exact (List.ext_getElem? λj=>by
   by_cases e:k=j
   ·subst e;rw[List.getElem?_set_self hk,h]
   ·rw[List.getElem?_set_ne e])
theorem Hz{α:Type}(M ex:List α)(j:Nat)(v:α)(h:j<M.length):((M++ex).set j v)[j]?=some v∧((M++ex).set j v).take j=M.take j:=by
 refine⟨?_,?_⟩
 ·rw[List.getElem?_set_self (by rw[List.length_append];omega)]
 ·rw[List.take_set_of_le (Nat.le_refl j),List.take_append_of_le_length (Nat.le_of_lt h)]
theorem J2{d mn:Int}(h:0<mn∧mn≤5):0≤d%mn∧d%mn<5 :=
 ⟨Int.emod_nonneg d (by omega),Int.lt_of_lt_of_le (Int.emod_lt_of_pos d h.1) h.2⟩
def Nb:DS:=(cu (ae 8) (lX [(ai aL (ae 3) (ae 7)),(dUn eZ (ae 10))]))
theorem wL:rB=(aA (aE 3 (aB (cal nQ) [(ae 0),(ai bD (ai bD (ae 1) (dC (.int 1))) (ae 9))]))
 (aA (aE 10 (aB (cal pb) [(ai d_ (ae 3) (dC (.int 100))),(ae 2),(ae 5),(ae 4)]))
 (aA (sIf (ai fEq (ai aL (ai d_ (ae 3) (dC (.int 10))) (dC (.int 5))) (dC (.int 1))) (aA (aE 11 (ai aL (ai d_ (ae 3) (dC (.int 100))) (ae 2)))
 (aA (aE 10 (dP (eY [(dC (.int 1))])))
 M_)) dA)
 Nb))):=rfl
theorem J3(ns:List Int){p mn at_ k:Int}{w j:Nat}(hb:2≤p∧p≤97)(hp0:0<p)(hpz:p≠0)(hp1:p<1000000)(hp3:p<1073741824)(hw:0<w∧w≤12)(hw1:w≤1000)(hmn:0<mn∧mn≤5)(hm3:mn<1073741824)(bd:Bool)(h0:0≤at_+1+k)(h1:at_+1+k≤1000)(ts:List T)(hts:ts.length<szL)(M:ag)(hM:M[j]?=some (true,.lst ts))(x3 x6 x10 x11:Option SV) :
  ∃(d:Int) (l:List Int) (c:Nat) (y:Option SV) (ex:ag),rB [some (.val (.lst (ns.map T.int))),some (.val (.int at_)),some (.val (.int p)),x3,some (.val (.bl bd)),some (.val (.int w)),x6,some (.val (.int mn)),some (.cel j),some (.val (.int k)),x10,x11] M =
   .nx [some (.val (.lst (ns.map T.int))),some (.val (.int at_)),some (.val (.int p)),some (.val (.int d)),some (.val (.bl bd)),some (.val (.int w)),x6,some (.val (.int mn)),some (.cel j),some (.val (.int k)),some (.cel c),y] ((M++ex).set j (true,.lst (ts++[rt (d%mn,l)])))∧Rw p w l:=by
 obtain⟨d,hd⟩:=iu ns (at_+1+k) h0 h1
 obtain⟨r,hr,hR⟩:=Hy (d / 100) p w bd hp0 hp1 hw1 M
 have hr:pb [.val (.int (d / 100)),.val (.int p),.val (.int w),.val (.bl bd)] M = .ok (.cel M.length) (M++[(true,li r)]):=hr
 have m8:∀a:Int,aL (.int a) (.int p)=some (.int (a%p)):=λa=>cx _ _ hp0
 have Qg:∀a:Int,aL (.int a) (.int mn)=some (.int (a%mn)):=λa=>cx _ _ hmn.1
 have hj:j<M.length:=(List.getElem?_eq_some_iff.mp hM).1
 have key:∀(ex:ag) (c:Nat) (l:List Int) (y:Option SV),(M++ex)[c]?=some (true,li l) →
   Nb [some (.val (.lst (ns.map T.int))),some (.val (.int at_)),some (.val (.int p)),some (.val (.int d)),some (.val (.bl bd)),some (.val (.int w)),x6,some (.val (.int mn)),some (.cel j),some (.val (.int k)),some (.cel c),y] (M++ex) =
   .nx [some (.val (.lst (ns.map T.int))),some (.val (.int at_)),some (.val (.int p)),some (.val (.int d)),some (.val (.bl bd)),some (.val (.int w)),x6,some (.val (.int mn)),some (.cel j),some (.val (.int k)),some (.cel c),y] ((M++ex).set j (true,.lst (ts++[rt (d%mn,l)]))):=λex c l y hc=>by
  unfold Nb
  have g1:(M++ex)[j]?=some (true,T.lst ts):=by rw[List.getElem?_append_left hj];exact hM
  have hls:qq (.cel j) (M++ex)=some ():=nj g1
  have hap:∀t,appendAt (.cel j) t (M++ex)=some ((M++ex).set j (true,T.lst (ts++[t]))):=λt=>append_at g1 hts
  simp?! only[hls,hap,Qg,hc]
  rfl
 cases hz:(d / 10%5==1) with
 | false =>
  refine⟨d,r,M.length,x11,[(true,li r)],?_,hR⟩
  have k1:=key [(true,li r)] M.length r x11 (fE ..)
  rw[wL]
  simp?! only[hd,hr,hz]
  exact k1
 | true =>
  have hN:(M++[(true,li r)]++[(true,li [1])])[(M++[(true,li r)]).length]?=some (true,li [1]):=fE ..
  obtain⟨l,hpw,hRl⟩:=Na hb ⟨Int.emod_nonneg (d / 100) hpz,Int.emod_lt_of_pos (d / 100) hp0⟩ w hw (some (.val (.lst (ns.map T.int)))) (some (.val (.int at_))) (some (.val (.int d))) (some (.val (.bl bd))) x6 (some (.val (.int mn))) (some (.cel j)) (some (.val (.int k))) (M++[(true,li r)]).length (M++[(true,li r)]++[(true,li [1])]) hN
  have e1:(M++[(true,li r)]++[(true,li [1])]).set (M++[(true,li r)]).length (true,li l)=M++[(true,li r),(true,li l)]:=by rw[nA,List.append_assoc];rfl
  rw[e1] at hpw
  have k1:=key [(true,li r),(true,li l)] (M++[(true,li r)]).length l (some (.val (.int (d / 100%p)))) (by rw[show M++[(true,li r),(true,li l)]=(M++[(true,li r)])++[(true,li l)] from (List.append_assoc M [_] [_]).symm];exact fE ..)
  have l1:T.lst [.int 1]=li [1]:=rfl
  generalize hNN:M++[(true,li r)]=Nn at *
  refine⟨d,l,Nn.length,some (.val (.int (d / 100%p))),[(true,li r),(true,li l)],?_,hRl⟩
  rw[wL]
  simp?! only[hd,hr,hz,m8,l1,hpw]
  exact k1
theorem EB{p:Int}{w:Nat}{rows:Rows}{h:Int}{l:List Int}(h3:∀q∈rows,Rw p w q.2)(h4:∀q∈rows,0≤q.1∧q.1<5)(hl:Rw p w l)(hh:0≤h∧h<5):(∀q∈rows++[(h,l)],Rw p w q.2)∧∀q∈rows++[(h,l)],0≤q.1∧q.1<5:=by
 constructor
 ·intro q hq
  rcases List.mem_append.mp hq with hq|hq
  ·exact h3 q hq
  ·cases List.mem_singleton.mp hq;exact hl
 ·intro q hq
  rcases List.mem_append.mp hq with hq|hq
  ·exact h4 q hq
  ·cases List.mem_singleton.mp hq;exact hh
theorem J4(ns:List Int){p mn at_:Int}{w m:Nat}(hP:lQ p)(hw:0<w∧w≤6)(hmn:0<mn∧mn≤5)(hm:m≤11)(ha:0≤at_∧at_≤500)(bd:Bool)(c:Int)(μ:ag):∃(rows:Rows),((aA (aE 8 (dP (eY [])))
 (aA (eL (bx (ae 6)) (aN 9) rB)
 (aS (lX [(ae 2),(ae 5),(dUn eZ (ae 8))]))):DS) [some (.val (.lst (ns.map T.int))),some (.val (.int at_)),some (.val (.int p)),some (.val (.int c)),some (.val (.bl bd)),some (.val (.int w)),some (.val (.int m)),some (.val (.int mn)),none,none,none,none] μ).yY μ.length = .ok (.val (tb p w rows)) μ∧Tbl p w rows∧rows.length≤11∧∀q∈rows,0≤q.1∧q.1<5:=by
 have hb:=hP.pos
 have hp0:0<p:=Int.lt_of_lt_of_le (by decide) hb.1
 have rm:fh (m:Int)=true:=eB (by omega) (by omega)
 have hp0:0<p:=by omega
 have hpz:p≠0:=by omega
 have hp1:p<1000000:=by omega
 have hp3:p<1073741824:=by omega
 have hm3:mn<1073741824:=by omega
 have VH:0<w∧w≤12:=by omega
 have hw1:w≤1000:=by omega
 have hsz:11<szL:=by decide
 obtain⟨e',μ',h1,rows,x3,x9,x10,x11,rfl,g1,g2,h2,h3,h4⟩:=ic (same:=λ_=>True) (b:=aN 9) (ts:=bW 0 (m:Int).toNat) (body:=rB)
  (I:=λi e μ1=>∃(rows:Rows),∃x3 x9 x10 x11,e=[some (.val (.lst (ns.map T.int))),some (.val (.int at_)),some (.val (.int p)),x3,some (.val (.bl bd)),some (.val (.int w)),some (.val (.int m)),some (.val (.int mn)),some (.cel μ.length),x9,x10,x11]∧μ1[μ.length]?=some (true,.lst (rows.map rt))∧μ1.take μ.length=μ∧rows.length=i∧(∀q∈rows,Rw p w q.2)∧∀q∈rows,0≤q.1∧q.1<5)
  (λ_ _ _ _=>trivial) (λi t e μ1 ht hI=>by
   obtain⟨rows,x3,x9,x10,x11,rfl,g1,g2,h2,h3,h4⟩:=hI
   obtain⟨k,rfl,hi,hk⟩:=nC ht
   have hi:i<m:=hi
   obtain⟨d,l,cc,y,ex,hs,hR⟩:=J3 (at_:=at_) (k:=k) ns hb hp0 hpz hp1 hp3 VH hw1 hmn hm3 bd (by omega) (by omega) (rows.map rt) (by rw[List.length_map,h2];exact Nat.lt_of_le_of_lt (by omega) hsz) μ1 g1 x3 (some (.val (.int m))) x10 x11
   have hkp:=Hz μ1 ex μ.length (true,T.lst (rows.map rt++[rt (d%mn,l)])) (List.getElem?_eq_some_iff.mp g1).1
   have hsn:=EB h3 h4 hR (J2 (d:=d) hmn)
   exact⟨_,_,_,rfl,hs,rows++[(d%mn,l)],_,_,_,_,rfl,by rw[hkp.1,List.map_append];rfl,hkp.2.trans g2,by rw[List.length_append,h2];rfl,hsn.1,hsn.2⟩)
  (e:=[some (.val (.lst (ns.map T.int))),some (.val (.int at_)),some (.val (.int p)),some (.val (.int c)),some (.val (.bl bd)),some (.val (.int w)),some (.val (.int m)),some (.val (.int mn)),some (.cel μ.length),none,none,none]) (μ:=μ++[(true,.lst [])]) ⟨[],_,none,none,none,rfl,fE ..,Jf ..,rfl,by simp,by simp⟩
 rw[eE,Int.toNat_natCast] at h2
 refine⟨rows,?_,⟨hP,hw.1,by omega,by omega,h3⟩,by omega,h4⟩
 simp?! only[rm,h1,g1,g2]
 rfl
def HA:DS:=(sIf (ai fEq (ai aL (ai d_ (ae 3) (dC (.int 280))) (dC (.int 8))) (dC (.int 5))) (aA (aE 5 (ai bD (ae 5) (dC (.int 2))))
 (aE 6 (ai bD (ae 6) (dC (.int 5))))) dA)
def Nc:DS:=(aA (aE 8 (dP (eY [])))
 (aA (eL (bx (ae 6)) (aN 9) rB)
 (aS (lX [(ae 2),(ae 5),(dUn eZ (ae 8))]))))
theorem By:CL =
 (aA (aE 3 (aB (cal nQ) [(ae 0),(ae 1)]))
 (aA (aE 4 (ai fEq (ai aL (ae 3) (dC (.int 2))) (dC (.int 0))))
 (aA (aE 5 (ai bD (dC (.int 1)) (ai aL (ai d_ (ae 3) (dC (.int 2))) (dC (.int 4)))))
 (aA (aE 6 (ai aL (ai d_ (ae 3) (dC (.int 8))) (dC (.int 7))))
 (aA (aE 7 (ai bD (dC (.int 1)) (ai aL (ai d_ (ae 3) (dC (.int 56))) (dC (.int 5)))))
 (aA HA Nc)))))):=rfl
theorem HB(x0 x1 x2 x4 x7 x8 x9 x10 x11:Option SV)(c:Int)(a b:Nat)(μ:ag):∃a' b':Nat,HA [x0,x1,x2,some (.val (.int c)),x4,some (.val (.int (1+a))),some (.val (.int b)),x7,x8,x9,x10,x11] μ = .nx [x0,x1,x2,some (.val (.int c)),x4,some (.val (.int (1+a':Nat))),some (.val (.int b')),x7,x8,x9,x10,x11] μ∧a'≤a+2∧b'≤b+5:=by
 unfold HA
 cases hz:(c / 280%8==5) with
 | false=>exact⟨a,b,by simp?! only[hz];rfl,Nat.le_add_right _ _,Nat.le_add_right _ _⟩
 | true=>exact⟨a+2,b+5,by simp?! only[hz];rfl,Nat.le_refl _,Nat.le_refl _⟩
theorem qf(ns:List Int){p:Int}(hP:lQ p)(at_:Int)(ha:0≤at_∧at_≤500)(μ:ag) :
  ∃(w:Nat) (rows:Rows),fnV 12 CL [.val (.lst (ns.map T.int)),.val (.int at_),.val (.int p)] μ = .ok (.val (tb p w rows)) μ∧Tbl p w rows∧w≤6∧rows.length≤11∧∀q∈rows,0≤q.1∧q.1<5:=by
 obtain⟨c,hc⟩:=iu ns at_ ha.1 (Int.le_trans ha.2 (by decide))
 generalize hbd:(c%2==0)=bd
 obtain⟨mn,hmn,VI⟩:∃mn:Int,1+c / 56%5=mn∧0<mn∧mn≤5:=⟨_,rfl,by omega⟩
 obtain⟨a,ha1,ha2⟩:=toNat_mod (c / 2) 4 (by decide)
 obtain⟨b,hb1,hb2⟩:=toNat_mod (c / 8) 7 (by decide)
 obtain⟨a',b',hif,ha3,hb3⟩:=HB (some (.val (.lst (ns.map T.int)))) (some (.val (.int at_))) (some (.val (.int p))) (some (.val (.bl bd))) (some (.val (.int mn))) none none none none c a b μ
 obtain⟨rows,k1,k2,k3,k4⟩:=J4 (w:=1+a') (m:=b') ns hP (by omega) VI (by omega) ha bd c μ
 refine⟨1+a',rows,?_,k2,by omega,k3,k4⟩
 rw[By]
 simp?! only[hc,hbd,ha1,hb1,hmn,hif]
 exact k1
def b_p:DS :=
 (aS (aF (eY [(dC (.int 2)),(dC (.int 3)),(dC (.int 5)),(dC (.int 7)),(dC (.int 11)),(dC (.int 13)),(dC (.int 2)),(dC (.int 97))]) (ai aL (ae 0) (dC (.int 8)))))
theorem Nd(c:Int):∃p,lQ p∧∀μ,fnV 1 b_p [.val (.int c)] μ = .ok (.val (.int p)) μ:=by
 have h0:=Int.emod_nonneg c (show (8:Int)≠0 by omega)
 have h1:=Int.emod_lt_of_pos c (show (0:Int)<8 by omega)
 have key:∀x∈([2,3,5,7,11,13,2,97]:List Int),x∈([2,3,5,7,11,13,17,19,23,29,31,37,41,43,47,53,59,61,67,71,73,79,83,89,97]:List Int):=by decide +kernel
 have e:=jM (xs:=([2,3,5,7,11,13,2,97]:List Int)) (f:=T.int) (i:=c%8) h0 (by show c%8<(8:Nat);omega)
 refine⟨_,key _ (List.getElem_mem (by show (c%8).toNat<8;omega)),λμ=>?_⟩
 unfold b_p
 simp only[List.map_cons,List.map_nil] at e
 simp?! only[e]
theorem J5(i k:Int)(h0:0≤k)(h1:k≤64):Dm (.int i) (.int k)=some (.int (i / 2 ^ k.toNat)):=if_pos ⟨h0,h1⟩
def CM:DS :=
 (aS (br (bx (dC (.int 6))) [none,some 0] (aN 0) (ai fEq (ai oA (ai Dm (ae 1) (ae 0)) (dC (.int 1))) (dC (.int 1))) (ae 0)))
theorem u9(c:Int):∃hs:List Int,hs.length≤6∧(∀h∈hs,0≤h∧h<6)∧∀μ,fnV 1 CM [.val (.int c)] μ = .ok (.val (li hs)) μ:=by
 have e9:∀μ,cy (λ_=>True) (aN 0) (ai fEq (ai oA (ai Dm (ae 1) (ae 0)) (dC (.int 1))) (dC (.int 1))) (ae 0) [none,some (.val (.int c))] (bW 0 (6:Int).toNat) μ = .ok (((gJ 0 6).filter λj=>(c / 2 ^ j.toNat%2==1)).map T.int) μ:=λμ=>by
  rw[js,tZ (λj=>(c / 2 ^ j.toNat%2==1)) T.int trivial]
  ·rfl
  intro j hj
  have hj:=tX.mp hj
  have s1:=J5 c j hj.1 (by simp at hj;omega)
  refine⟨_,rfl,?_,λ_=>?_⟩
  ·simp?! only[s1,AW]
  ·simp?! only[]
 have r6:fh 6=true:=eB (by omega) (by omega)
 have l6:(bW 0 (6:Int).toNat).length≤szL:=by rw[eE];unfold szL;decide
 refine⟨(gJ 0 6).filter λj=>(c / 2 ^ j.toNat%2==1),Nat.le_trans (List.length_filter_le _ _) (by rw[vh];exact Nat.le_refl _),λh hh=>?_,λμ=>by unfold CM;simp?! only[r6,e9,l6]⟩
 have:=tX.mp (List.mem_filter.mp hh).1
 omega
def HC:DS :=
 (aS (br (bx (fz (aF (ae 0) (dC (.int 2))))) [none,some 1,some 0] (aN 0) (ai fIn (aF (aF (aF (ae 2) (dC (.int 2))) (ae 0)) (dC (.int 0))) (ae 1)) (ae 0)))
theorem yq{p:Int}{w:Nat}{rows:Rows}(hn:rows.length≤24)(eo:List Int)(y:SV)(μ:ag)(h2:rd μ y=some (li eo)) :
  fnV 2 HC [.val (tb p w rows),y] μ = .ok (.val (li (nums (rowsOf rows eo)))) μ:=by
 have VJ:(List.map rt rows).length=rows.length:=List.length_map ..
 have rn:fh (rows.length:Int)=true:=eB (by omega) (by omega)
 have ln:(bW 0 (rows.length:Int).toNat).length≤szL:=by rw[eE];unfold szL;omega
 have e12:cy (λ_=>True) (aN 0) (ai fIn (aF (aF (aF (ae 2) (dC (.int 2))) (ae 0)) (dC (.int 0))) (ae 1)) (ae 0) [none,some y,some (.val (.tup [.int p,.int w,.tup (rows.map rt)]))] (bW 0 (rows.length:Int).toNat) μ = .ok ((nums (rowsOf rows eo)).map T.int) μ:=by
  have e0:bW 0 (rows.length:Int).toNat=(List.range rows.length).map λ(i:Nat)=>T.int (i:Int):=by rw[js,nP,Int.toNat_natCast,List.map_map];rfl
  rw[e0,pP (λ(i:Nat)=>T.int (i:Int)) (λi=>decide ((fK rows i).1∈eo)) (λ(i:Nat)=>T.int (i:Int)) trivial]
  ·rw[← u4];rfl
  ·intro i hi
   have hi:=List.mem_range.mp hi
   have a1:atI (rows.map rt) (i:Int)=some (rt (fK rows i)):=by
    rw[jM (by omega) (by omega)]
    simp[fK,hi]
   refine⟨_,rfl,?_,λ_=>?_⟩
   ·simp?! only[a1,rt,h2,zi]
   ·simp?! only[]
 unfold HC tb
 simp?! only[VJ,rn,ln,e12]
def CN:DS :=
 (aS (br (h7 (aF (ae 0) (dC (.int 2)))) [none,none,some 0,some 1] (b4 [0,1]) (dC (.bl true)) (ai aL (dUn ma (br (me (ae 1) (ae 3)) [none,none] (b4 [0,1]) (dC (.bl true)) (ai aM (ae 0) (ae 1)))) (aF (ae 2) (dC (.int 0))))))
theorem HD{p:Int}{w:Nat}{l:List Int}(hR:Rw p w l)(hp:p≤97)(fs:List Int)(S:ag→Prop)(μ:ag)(hS:S μ) :
  cy S (b4 [0,1]) (dC (.bl true)) (ai aM (ae 0) (ae 1)) [none,none] (fA (l.map T.int) (fs.map T.int)) μ = .ok ((l.zip fs).map λq=>T.int (q.1*q.2)) μ:=by
 rw[gC,bE _ (λq:Int×Int => .int (q.1*q.2)) hS]
 rintro⟨a,b⟩ hq
 have hm:=(List.of_mem_zip hq).1
 have b0:=hR.2 a hm
 have b1:=hR.3 a hm
 have:aM (.int a) (.int b)=some (.int (a*b)):=ib _ _ (by omega) (by omega)
 refine⟨_,dB 0 1 _ _ _,?_⟩
 simp?! only[this]
theorem u_{p:Int}{w:Nat}{rows:Rows}(H:Tbl p w rows)(fs:List Int)(y:SV)(μ:ag)(h2:(rd μ y).bind bw=some (fs.map T.int)) :
  fnV 2 CN [.val (tb p w rows),y] μ = .ok (.val (li (parts p rows fs))) μ:=by
 have hb:=H.pr.pos
 have hp0:0<p:=Int.lt_of_lt_of_le (by decide) hb.1
 have hn:=H.n
 have hw:=H.w1
 have m8:∀a:Int,aL (.int a) (.int p)=some (.int (a%p)):=λa=>cx _ _ (by omega)
 have e:cy (λ_=>True) (b4 [0,1]) (dC (.bl true)) (ai aL (dUn ma (br (me (ae 1) (ae 3)) [none,none] (b4 [0,1]) (dC (.bl true)) (ai aM (ae 0) (ae 1)))) (aF (ae 2) (dC (.int 0)))) [none,none,some (.val (.tup [.int p,.int w,.tup (rows.map rt)])),some y] (rows.map rt) μ = .ok ((parts p rows fs).map T.int) μ:=by
  rw[bE rt (λq:Int×List Int=>T.int (dot q.2 fs%p)) trivial]
  ·simp[parts]
  ·rintro⟨h,l⟩ hq
   have hR:=H.li _ hq
   have hlw:l.length=w:=hR.1
   have ls:(fA (l.map T.int) (fs.map T.int)).length≤szL:=by rw[ix,List.length_map];unfold szL;omega
   have hz:=λS hS=>HD hR hb.2 fs S μ hS
   have hs:ma (.lst ((l.zip fs).map λq=>T.int (q.1*q.2)))=some (.int (dot l fs)):=by rw[mq,CC]
   refine⟨_,dB 0 1 (.int h) (tu l) _,?_⟩
   simp?! only[h2]
   rw[hz _ (by simp)]
   simp?! only[ls,hs,m8]
 have lr:(rows.map rt).length≤szL:=by rw[List.length_map];unfold szL;omega
 unfold CN tb
 simp?! only[e,lr]
def CP:DS :=
 (aS (w_ (dIs .int (ae 0)) (w_ (kJ (dIs .bool (ae 0))) (tK fLe fLt (dC (.int 0)) (ae 0) (ae 1)))))
def qg:FN:=fnV 2 CP
theorem HE{p k:Int}(h0:0≤k)(h1:k<p)(μ:ag):qg [.val (.int k),.val (.int p)] μ = .ok (.val (.bl true)) μ:=by
 unfold qg CP
 simp[isK,h0,h1]
theorem Bz{p:Int}{n:Nat}{r:List Int}(h:Rw p n r)(S:ag→Prop)(μ:ag)(hS:S μ) :
  cy S (aN 0) (dC (.bl true)) (aB (cal qg) [(ae 0),(ae 1)]) [none,some (.val (.int p))] (r.map T.int) μ = .ok (r.map λ_=>T.bl true) μ:=by
 rw[wm (λ_=>T.bl true) hS]
 intro k hk
 have:=HE (p:=p) (h.2 k hk) (h.3 k hk) μ
 refine⟨_,rfl,?_⟩
 simp?! only[this]
theorem all_true(r:List Int):yV (.lst (r.map λ_=>T.bl true))=some (.bl true):=by
 rw[FY (λ_=>true)]
 simp
def lM:DS:=(aA (aE 7 (dUn ma (br (me (ae 1) (ae 2)) [none,none,some 6,some 5] (b4 [0,1]) (dC (.bl true)) (ai aM (ae 1) (aF (aF (aF (ae 3) (ae 0)) (dC (.int 1))) (ae 2))))))
 (sIf (ai fNe (ai aL (ae 7) (ae 3)) (dUn DE (ai fEq (ae 6) (dC (.int 0))))) (aS (dC (.bl false))) dA))
def gH:DS :=
 (aA (zj [3,4,5] (ae 0))
 (aA (sIf (dOr (kJ (dIs .list (ae 2))) (ai fNe (fz (ae 2)) (fz (ae 1)))) (aS (dC (.bl false))) dA)
 (aA (sIf (kJ (dUn yV (br (h7 (ae 2)) [none,some 3] (aN 0) (dC (.bl true)) (aB (cal qg) [(ae 0),(ae 1)])))) (aS (dC (.bl false))) dA)
 (aA (eL (bx (ae 4)) (aN 6) lM)
 (aS (dC (.bl true)))))))
theorem yv(rows:Rows)(j:Nat):∀(is:List Nat) (ms:List Int),ms.length=is.length→(((nums is).zip ms).map λq=>q.2*g (fK rows q.1.toNat).2 j).sum=dot ms (col (linesAt rows is) j)
 | [],[],_=>rfl
 | [],_::_,h=>by simp at h
 | _::_,[],h=>by simp at h
 | i::is,m::ms,h=>by
  have:=yv rows j is ms (by simpa using h)
  unfold nums linesAt col at this ⊢
  simp only[List.map_cons,List.zip_cons_cons,List.sum_cons,dot,this,Int.toNat_natCast]
theorem BA(xs:List Int):∀(is:List Nat) (ms:List Int),ms.length=is.length→(((nums is).zip ms).map λq=>q.2*g xs q.1.toNat).sum=dot ms (is.map λi=>g xs i)
 | [],[],_=>rfl
 | [],_::_,h=>by simp at h
 | _::_,[],h=>by simp at h
 | i::is,m::ms,h=>by
  have:=BA xs is ms (by simpa using h)
  unfold nums at this ⊢
  simp only[List.map_cons,List.zip_cons_cons,List.sum_cons,dot,this,Int.toNat_natCast]
theorem BB{p:Int}(hp:1<p){w j:Nat}{a:Int}(h:p ∣ a-g (eu w 0) j):a%p=g (eu w 0) j:=by
 obtain⟨t,ht⟩:=h
 have hb:=(Hq hp w 0).g0 (by omega) j
 rw[show a=g (eu w 0) j+p*t by omega,Int.add_mul_emod_self_left,Int.emod_eq_of_lt hb.1 hb.2]
theorem Nf(w j:Nat)(hw:0<w):g (eu w 0) j=if (j:Int)=0 then 1 else 0:=by
 rw[CJ w hw]
 cases j with
 | zero=>rfl
 | succ j =>
  rw[e_,if_neg (by omega)]
  unfold g
  by_cases h:j<w-1<;>simp[h]
theorem HF{is:List Nat}{k:Int}(h:k∈nums is):∃i∈is,k=(i:Int):=by
 obtain⟨i,hi,rfl⟩:=List.mem_map.mp h
 exact⟨i,hi,rfl⟩
section
variable{p:Int}{w:Nat}{rows:Rows}{is:List Nat}
theorem BC(hi:∀i∈is,i<rows.length){k:Int}(hk:k∈nums is):atI (rows.map rt) k=some (rt (fK rows k.toNat))∧k.toNat<rows.length:=by
 obtain⟨i,hm,rfl⟩:=HF hk
 have hlt:=hi i hm
 refine⟨?_,by omega⟩
 rw[jM (by omega) (by omega)]
 simp[fK,hlt]
theorem pd(H:Tbl p w rows)(hi:∀i∈is,i<rows.length)(hn:is.length≤24){ms:List Int}(hm:Rw p is.length ms)(h1:∀j,j<w→p ∣ dot ms (col (linesAt rows is) j)-g (eu w 0) j)(y:SV)(μ:ag)(hy:Sq μ y ms)(his:isS .list μ y=some (.bl true)) :
  fnV 8 gH [.val (tb p w rows),.val (li (nums is)),y] μ = .ok (.val (.bl true)) μ:=by
 have hb:=H.pr.pos
 have hp0:0<p:=Int.lt_of_lt_of_le (by decide) hb.1
 have hw:=H.w1
 have hw0:=H.w0
 have hlen:=hy.len
 rw[hm.1] at hlen
 have ln:(nums is).length=is.length:=by unfold nums;rw[List.length_map]
 have m8:∀a:Int,aL (.int a) (.int p)=some (.int (a%p)):=λa=>cx _ _ (by lia)
 have rw_:fh (w:Int)=true:=eB (by omega) (by omega)
 have lm:ms.length≤szL:=by rw[hm.1];unfold szL;omega
 have wh:=λS hS=>Bz hm S μ hS
 have hit:=hy.it
 obtain⟨e',μ',hf,x6,x7,rfl,rfl⟩:=ic (same:=λ_=>True) (b:=aN 6) (ts:=bW 0 (w:Int).toNat) (body:=lM)
  (I:=λi e μ1=>∃x6 x7,e=[some (.val (tb p w rows)),some (.val (li (nums is))),some y,some (.val (.int p)),some (.val (.int w)),some (.val (.tup (rows.map rt))),x6,x7]∧μ=μ1)
  (λ_ _ _ _=>trivial) (λj t e μ1 ht ax=>by
   obtain⟨x6,x7,he,hμ⟩:=ax
   subst he hμ
   obtain⟨k,rfl,hj,hk⟩:=nC ht
   have hj:j<w:=by simpa using hj
   have ek:k=(j:Int):=by omega
   subst ek
   have ez:∀S:ag→Prop,S μ→cy S (b4 [0,1]) (dC (.bl true)) (ai aM (ae 1) (aF (aF (aF (ae 3) (ae 0)) (dC (.int 1))) (ae 2))) [none,none,some (.val (.int j)),some (.val (.tup (rows.map rt)))] (fA ((nums is).map T.int) (ms.map T.int)) μ = .ok (((nums is).zip ms).map λq=>T.int (q.2*g (fK rows q.1.toNat).2 j)) μ:=λS hS=>by
    rw[gC,bE _ (λq:Int×Int=>T.int (q.2*g (fK rows q.1.toNat).2 j)) hS]
    rintro⟨a,b⟩ hq
    obtain⟨m1,m2⟩:=List.of_mem_zip hq
    obtain⟨a1,a2⟩:=BC hi m1
    have hR:=yu H a2
    have b0:=hm.2 b m2
    have b1:=hm.3 b m2
    have a3:atI ((fK rows a.toNat).2.map T.int) (j:Int)=some (.int (g (fK rows a.toNat).2 j)):=by rw[atg (by lia) (by rw[hR.1];omega),Int.toNat_natCast]
    have hmu:aM (.int b) (.int (g (fK rows a.toNat).2 j))=some (.int (b*g (fK rows a.toNat).2 j)):=Ht hb.2 ⟨b0,b1⟩
    refine⟨_,dB 0 1 _ _ _,?_⟩
    simp?! only[a1,rt,a3,hmu]
   have lz:(fA ((nums is).map T.int) (ms.map T.int)).length≤szL:=by rw[ix,List.length_map,ln];unfold szL;omega
   have hs:ma (.lst (((nums is).zip ms).map λq=>T.int (q.2*g (fK rows q.1.toNat).2 j)))=some (.int (dot ms (col (linesAt rows is) j))):=by rw[mq,yv rows j is ms hm.1]
   have HG:=BB (by lia) (h1 j hj)
   rw[Nf w j hw0] at HG
   have hne:fNe (.int (if (j:Int)=0 then 1 else 0)) (.int (if ((j:Int)==0)=true then 1 else 0))=some (.bl false):=by
    rw[pJ]
    by_cases h:(j:Int)=0<;>simp[h]
   refine⟨_,_,_,rfl,?_,some (.val (.int j)),some (.val (.int (dot ms (col (linesAt rows is) j)))),rfl,rfl⟩
   unfold lM
   simp?! only[hit]
   rw[ez _ (by simp)]
   simp?! only[lz,hs,m8,HG,hne])
  (e:=[some (.val (tb p w rows)),some (.val (li (nums is))),some y,some (.val (.int p)),some (.val (.int w)),some (.val (.tup (rows.map rt))),none,none]) (μ:=μ) ⟨none,none,rfl,rfl⟩
 unfold gH
 have s0:(zj [3,4,5] (ae 0)) (starts 8 [.val (tb p w rows),.val (li (nums is)),y]) μ = .nx [some (.val (tb p w rows)),some (.val (li (nums is))),some y,some (.val (.int p)),some (.val (.int w)),some (.val (.tup (rows.map rt))),none,none] μ:=by
  unfold tb
  simp?! only[]
 rw[b9,gg,s0,RS.cD]
 have fin:((eL (bx (ae 4)) (aN 6) lM) [some (.val (tb p w rows)),some (.val (li (nums is))),some y,some (.val (.int p)),some (.val (.int w)),some (.val (.tup (rows.map rt))),none,none] μ) = .nx [some (.val (tb p w rows)),some (.val (li (nums is))),some y,some (.val (.int p)),some (.val (.int w)),some (.val (.tup (rows.map rt))),x6,x7] μ:=by
  simp?! only[rw_,hf]
 simp?! only[tI,his,hlen,List.length_map,ln,hit]
 rw[wh _ (by simp)]
 have fin2:forL (λ_=>True) (aN 6) lM (bW 0 (w:Int).toNat) [some (.val (tb p w rows)),some (.val (li (nums is))),some y,some (.val (.int p)),some (.val (.int w)),some (.val (.tup (rows.map rt))),none,none] μ = .nx [some (.val (tb p w rows)),some (.val (li (nums is))),some y,some (.val (.int p)),some (.val (.int w)),some (.val (.tup (rows.map rt))),x6,x7] μ:=hf
 simp?! only[List.length_map,lm,all_true,rw_,fin2]
end
theorem Ng:(("shut":Str)=="shut")=true:=by decide +kernel
theorem kF(rows:Rows)(is:List Nat):(linesAt rows is).length=is.length:=by unfold linesAt;rw[List.length_map]
theorem hid{p:Int}{w:Nat}{rows:Rows}{is:List Nat}(H:Tbl p w rows)(hi:∀i∈is,i<rows.length){ms fs:List Int}(hf:Rw p w fs)(hm:Rw p is.length ms)(h:∀j,j<w→p ∣ dot ms (col (linesAt rows is) j)-g (eu w 0) j) :
  (((nums is).zip ms).map λq=>q.2*g (parts p rows fs) q.1.toNat).sum%p=g fs 0:=by
 have hb:=H.pr.pos
 have hp0:0<p:=Int.lt_of_lt_of_le (by decide) hb.1
 have hL:=jH H hi
 rw[BA _ is ms hm.1]
 have e:(is.map λi=>g (parts p rows fs) i)=(linesAt rows is).map λl=>dot l fs%p:=by
  unfold linesAt
  rw[List.map_map]
  refine List.map_congr_left λi hm=>?_
  have hlt:=hi i hm
  unfold parts g
  simp[fK,hlt]
 rw[e]
 have a1:=Ab p w fs (linesAt rows is) ms (eu w 0) (by rw[kF];exact hm.1) (λl h=>(hL l h).1) (uZ _ _) h
 rw[o_ w 0 fs H.w0] at a1
 have a2:=Ac p ms ((linesAt rows is).map λl=>dot l fs)
 rw[List.map_map] at a2
 have e:((λx=>x%p) ∘ λl=>dot l fs)=λl=>dot l fs%p:=rfl
 rw[e] at a2
 obtain⟨s,hs⟩:=a1
 obtain⟨t,ht⟩:=a2
 have gb:=hf.g0 (by lia) 0
 rw[show dot ms ((linesAt rows is).map λl=>dot l fs%p)=g fs 0+p*(s+t) by grind,Int.add_mul_emod_self_left]
 exact Int.emod_eq_of_lt gb.1 gb.2
def i8:DS :=
 (aS (ai bD (lX [(ae 0)]) (dUn eZ (ae 1))))
def b5:FN:=fnV 2 i8
theorem pe(a:Int)(cs:List Int)(y:SV)(μ:ag)(hl:cs.length≤1000)(h:rd μ y=some (li cs)):b5 [.val (.int a),y] μ = .ok (.val (tu (a::cs))) μ:=by
 have fa:bD (.tup [.int a]) (.tup (cs.map T.int))=some (tu (a::cs)):=by
  rw[Fp _ _ (by simp[szL];omega)];rfl
 unfold b5 i8
 simp?! only[h,fa]
theorem kG(p:Int)(rows:Rows)(fs:List Int):(parts p rows fs).length=rows.length:=by unfold parts;rw[List.length_map]
theorem Af{p:Int}(hp:0<p)(rows:Rows)(fs:List Int):Rw p rows.length (parts p rows fs):=by
 refine⟨kG p rows fs,λx hx=>?_,λx hx=>?_⟩
 ·obtain⟨q,_,rfl⟩:=List.mem_map.mp hx;exact Int.emod_nonneg _ (by omega)
 ·obtain⟨q,_,rfl⟩:=List.mem_map.mp hx;exact Int.emod_lt_of_pos _ hp
theorem rP(p:Int)(rows:Rows)(n:Nat):parts p rows (List.replicate n 0)=List.replicate rows.length 0:=by
 unfold parts
 refine List.eq_replicate_iff.mpr ⟨by simp,λb hb=>?_⟩
 obtain⟨q,_,rfl⟩:=List.mem_map.mp hb
 rw[m7,h8];rfl
theorem Nh(n:Nat)(h:n≤1000):oq (.lst [.int 0]) (.int n)=some (li (List.replicate n 0)):=by
 rw[Cz _ _ ⟨by omega,by omega,by simp[szL];omega⟩,Int.toNat_natCast,List.flatten_replicate_singleton,li,List.map_replicate]
end Fw.K
namespace Fw.E
open PySem Fw Fw.H
theorem J6(f:T→T→Option T)(x y:Int)(z z2:T)(μ:ag)(hr:f (.lst [.int 0]) (.int x)=some z)(hs:setAt (.cel μ.length) (.int y) (.int 1) (μ++[(true,z)])=some (μ++[(true,z2)])):fnD 3 (aA (aE 2 (dP (pH f [(dC (.int 0))] (ae 0))))
 (aA (dQ 2 (ae 1) (dC (.int 1)))
 (aS (ae 2)))) [.val (.int x),.val (.int y)] μ = .ok (.cel μ.length) (μ++[(true,z2)]):=by
 simp[hr,hs,F.Ho]
theorem HH{w:Nat}(j:Nat)(hj:j<w)(hw:w≤1000)(μ:ag):fnD 3 kZ [.val (.int w),.val (.int j)] μ = .ok (.cel μ.length) (μ++[(true,li (eu w j))]) :=
 J6 oq w j _ _ μ (rep0 w hw) (hs_ w j hj μ)
def nF:FN:=fnD 3 kZ
def iB:FN:=fnV 11 nE
def bz:FN:=fnV 3 cQ
def i7:DS :=
 (aA (aE 4 (aB (cal nF) [(ae 2),(ae 3)]))
 (aA (eL (kT (ae 1)) (b4 [5,6]) (dQ 4 (ae 5) (ai aL (dUn tw (aF (ae 6) (ae 3))) (ae 0))))
 (aS (ae 4))))
def c_:FN:=fnV 7 i7
def nv(p:Int)(m:Nat)(ls:List Ld)(f:Nat):List Int:=(List.range m).map λj=>match ls.find? (λq=>q.1==j) with
 | some q=>(-g q.2 f)%p
 | none=>if j=f then 1 else 0
theorem CQ{p:Int}(hp:1<p)(m:Nat)(ls:List Ld)(f:Nat):Rw p m (nv p m ls f):=by
 have b:∀x∈nv p m ls f,0≤x∧x<p:=λx hx=>by
  obtain⟨j,_,rfl⟩:=List.mem_map.mp hx
  cases ls.find? (λq=>q.1==j) with
  | some q=>exact⟨Int.emod_nonneg _ (by omega),Int.emod_lt_of_pos _ (by omega)⟩
  | none=>simp only;split<;>omega
 exact⟨by simp[nv],λx hx=>(b x hx).1,λx hx=>(b x hx).2⟩
theorem Ni(p:Int)(m:Nat)(ls:List Ld)(f j:Nat)(hj:j<m):g (nv p m ls f) j=match ls.find? (λq=>q.1==j) with
  | some q=>(-g q.2 f)%p
  | none=>if j=f then 1 else 0:=by
 unfold g nv
 rw[List.getD_eq_getElem?_getD,List.getElem?_map,List.getElem?_range hj]
 rfl
theorem nR{ls:List Ld}{q:Ld}(hn:(ls.map (·.1)).Nodup)(h:q∈ls):ls.find? (λa=>a.1==q.1)=some q:=by
 induction ls with
 | nil=>simp at h
 | cons a ls ih =>
  have hn':=List.nodup_cons.mp (by simpa using hn:(a.1::ls.map (·.1)).Nodup)
  rw[List.find?_cons]
  rcases List.mem_cons.mp h with rfl|h
  ·simp
  ·have:a.1≠q.1:=λe=>hn'.1 (e ▸ List.mem_map.mpr ⟨q,h,rfl⟩)
   rw[show (a.1==q.1)=false by simpa using this]
   exact ih hn'.2 h
theorem find_none{ls:List Ld}{j:Nat}(h:∀q∈ls,q.1≠j):ls.find? (λa=>a.1==j)=none:=by
 rw[List.find?_eq_none]
 intro q hq
 simpa using h q hq
theorem vO{p:Int}{m:Nat}(hP:lQ p){ls:List Ld}(hn:(ls.map (·.1)).Nodup)(hk:∀q∈ls,q.1<m)(rl:∀q∈ls,Rw p m q.2)(hm:m≤1000)(f:Nat)(hf:f<m)(hfl:∀q∈ls,q.1≠f)(μ:ag) :
  c_ [.val (.int p),.val (.dct (dk ls)),.val (.int m),.val (.int f)] μ = .ok (.val (li (nv p m ls f))) μ:=by
 have hb:=hP.pos
 have hu:nF [.val (.int m),.val (.int f)] μ = .ok (.cel μ.length) (μ++[(true,li (eu m f))]):=HH f hf hm μ
 obtain⟨e',μ',h1,y5,y6,ms,h2,h3,h4,h5,h6⟩:=ic (same:=λ_=>True) (b:=b4 [5,6]) (body:=dQ 4 (ae 5) (ai aL (dUn tw (aF (ae 6) (ae 3))) (ae 0))) (ts:=e8 (dk ls))
  (e:=[some (.val (.int p)),some (.val (.dct (dk ls))),some (.val (.int m)),some (.val (.int f)),some (.cel μ.length),none,none]) (μ:=μ++[(true,li (eu m f))])
  (λi e μ'=>∃y5 y6 ms,e=[some (.val (.int p)),some (.val (.dct (dk ls))),some (.val (.int m)),some (.val (.int f)),some (.cel μ.length),y5,y6]∧μ'=μ++[(true,li ms)]∧Rw p m ms∧(∀q∈ls.take i,g ms q.1=(-g q.2 f)%p)∧∀j,(∀q∈ls.take i,q.1≠j)→g ms j=g (eu m f) j)
  (λi e μ' _=>trivial) (λi t e μ' ht ax=>by
   obtain⟨y5,y6,ms,he,hμ,hr,h5,h6⟩:=ax
   subst he hμ
   obtain⟨q,hq,hi,rfl⟩:=rA ht
   have hmm:q∈ls:=List.mem_of_getElem? hq
   have hkq:=hk q hmm
   have ha:=atn (r:=q.2) (k:=f) (by rw[(rl q hmm).len];exact hf)
   have v0:=Int.emod_nonneg (-g q.2 f) (show p≠0 by omega)
   have v1:=Int.emod_lt_of_pos (-g q.2 f) (show 0<p by omega)
   have M3:∀v,setAt (.cel μ.length) (.int (q.1:Int)) (.int v) (μ++[(true,li ms)])=some (μ++[(true,li (ms.set q.1 v))]):=λv=>by
    rw[tW (ts:=ms.map T.int) fE (by omega) (by rw[List.length_map,hr.len];omega),nA]
    have:(q.1:Int).toNat=q.1:=by omega
    rw[this,← List.map_set]
   have htk:ls.take (i+1)=ls.take i++[q]:=by rw[List.take_add_one,hq];rfl
   have gs:∀j,g (ms.set q.1 ((-g q.2 f)%p)) j=if j=q.1 then (-g q.2 f)%p else g ms j:=λj=>Cw ms q.1 j _ (by rw[hr.len];omega)
   refine⟨_,_,_,dB 5 6 (.int (q.1:Int)) (li q.2) _,?_,some (.val (.int (q.1:Int))),some (.val (li q.2)),ms.set q.1 ((-g q.2 f)%p),rfl,rfl,Rw.set hr v0 v1,?_,?_⟩
   ·simp?! only[ha,M3]
   ·intro q' hq'
    rw[htk] at hq'
    rw[gs]
    rcases List.mem_append.mp hq' with h|h
    ·by_cases e:q'.1=q.1
     ·have eq':q'=q:=by
       have a1:=nR hn (List.mem_of_mem_take h)
       have a2:=nR hn hmm
       rw[e,a2] at a1
       exact (Option.some.inj a1).symm
      subst eq';rw[if_pos rfl]
     ·rw[if_neg e];exact h5 q' h
    ·simp at h;subst h;rw[if_pos rfl]
   ·intro j hj
    rw[htk] at hj
    rw[gs,if_neg λe=>hj q (by simp) e.symm]
    exact h6 j λq' hq'=>hj q' (by simp[hq']))
  ⟨none,none,eu m f,rfl,rfl,Rw.set (m_ (by omega) m) (by omega) (by omega),by simp,λj _=>rfl⟩
 subst h2 h3
 have hlen:(e8 (dk ls)).length=ls.length:=by simp[e8,dk]
 rw[hlen,List.take_length] at h5 h6
 have hms:ms=nv p m ls f:=M4 h4 (CQ (by omega) m ls f) λj hj=>by
  rw[Ni p m ls f j hj]
  by_cases h:∃q∈ls,q.1=j
  ·obtain⟨q,hq,rfl⟩:=h
   rw[nR hn hq,h5 q hq]
  ·have h':∀q∈ls,q.1≠j:=λq hq e=>h ⟨q,hq,e⟩
   rw[find_none h',h6 j h']
   unfold eu
   rw[Cw _ _ _ _ (by simp;exact hf)]
   by_cases e:j=f
   ·simp[e]
   ·simp[e,g,List.getElem?_replicate,hj]
 subst hms
 unfold c_ i7
 simp?! only[hu,xn,h1,F.CD]
theorem EC(ls:List Ld)(j:Nat):(kS (dk ls) (.inl (j:Int))).isSome=ls.any λq=>decide (q.1=j):=by
 rw[← Bv]
 unfold kS
 rw[Option.isSome_map]
 induction dk ls with
 | nil=>rfl
 | cons a l ih =>
  rw[List.find?_cons,List.any_cons]
  cases decide (a.1=(.inl (j:Int):Key)) with
  | true=>rfl
  | false=>simpa using ih
def freeOf(m:Nat)(ls:List Ld):List Nat:=(List.range m).filter λj=>!(ls.any λq=>decide (q.1=j))
theorem ED{m:Nat}{ls:List Ld}{j:Nat}(h:j∈freeOf m ls):j<m∧∀q∈ls,q.1≠j:=by
 unfold freeOf at h
 rw[List.mem_filter,List.mem_range] at h
 refine⟨h.1,λq hq e=>?_⟩
 have:=h.2
 rw[Bool.not_eq_true',List.any_eq_false] at this
 exact this q hq (by simp[e])
def ef:DS :=
 (aA (aE 3 (fz (ae 2)))
 (aA (aE 4 (aF (aB (cal iB) [(ae 0),(br (bx (ae 1)) [none,some 0,some 2] (aN 0) (dC (.bl true)) (aB (cal bz) [(ae 1),(ae 2),(ae 0)])),(ae 3)]) (dC (.int 0))))
 (aS (br (bx (ae 3)) [none,some 0,some 4,some 3] (aN 0) (ai wo (ae 0) (ae 2)) (aB (cal c_) [(ae 1),(ae 2),(ae 3),(ae 0)])))))
theorem va{p:Int}{w:Nat}{lines:List (List Int)}(hP:lQ p)(hl:∀l∈lines,Rw p w l)(hn:lines.length≤100)(hw2:w≤100)(x:SV)(μ:ag)(hx:rd μ x=some (.lst (lines.map tu))) :
  ∃ls ns,ef (starts 5 [.val (.int p),.val (.int w),x]) μ = .rt (.val (.lst ((freeOf lines.length ls).map λf=>li (nv p lines.length ls f)))) μ∧kB p lines.length lines.length ls ns (cols w lines):=by
 have hb:=hP.pos
 have hlen:=yp hx
 rw[List.length_map] at hlen
 have rw_:fh (w:Int)=true:=eB (by omega) (by omega)
 have lw:(bW 0 (w:Int).toNat).length≤szL:=by rw[eE];unfold szL;omega
 have rm:fh (lines.length:Int)=true:=eB (by omega) (by omega)
 have lm:(bW 0 (lines.length:Int).toNat).length≤szL:=by rw[eE];unfold szL;omega
 have Hm:∀r∈cols w lines,Rw p lines.length r:=λr hr=>by
  obtain⟨j,_,rfl⟩:=List.mem_map.mp hr
  exact Hh (by omega) hl j
 obtain⟨ls,ns,h2,E,_⟩:=zY (m:=lines.length) hP (L:=lines.length) (by omega) (Nat.le_refl _) (cols w lines) Hm (by simp[cols];omega) (.val (.lst ((cols w lines).map li))) μ (λl=>rfl)
 have h2:iB [.val (.int p),.val (.lst ((cols w lines).map li)),.val (.int lines.length)] μ=_:=h2
 refine⟨ls,ns,?_,E⟩
 have e1:cy (λ_=>True) (aN 0) (dC (.bl true)) (aB (cal bz) [(ae 1),(ae 2),(ae 0)]) [none,some (.val (.int p)),some x] (bW 0 (w:Int).toNat) μ = .ok ((cols w lines).map li) μ:=by
  rw[js,Int.toNat_natCast,nP,List.map_map]
  rw[show (List.map (T.int ∘ λ(i:Nat)=>(i:Int)) (List.range w))=(List.range w).map λ(i:Nat)=>T.int (i:Int) from rfl]
  rw[bE (λ(i:Nat)=>T.int (i:Int)) (λj=>li (col lines j)) trivial]
  ·rw[cols,List.map_map];rfl
  ·intro j hj
   have hj:=List.mem_range.mp hj
   have JT:bz [.val (.int p),x,.val (.int j)] μ = .ok (.val (li (col lines j))) μ:=h_ (by omega) hl (by omega) j hj x μ hx
   refine⟨_,rfl,?_⟩
   simp?! only[JT]
 have e2:cy (λ_=>True) (aN 0) (ai wo (ae 0) (ae 2)) (aB (cal c_) [(ae 1),(ae 2),(ae 3),(ae 0)]) [none,some (.val (.int p)),some (.val (.dct (dk ls))),some (.val (.int lines.length))] (bW 0 (lines.length:Int).toNat) μ = .ok ((freeOf lines.length ls).map λf=>li (nv p lines.length ls f)) μ:=by
  rw[js,Int.toNat_natCast,nP,List.map_map]
  rw[show (List.map (T.int ∘ λ(i:Nat)=>(i:Int)) (List.range lines.length))=(List.range lines.length).map λ(i:Nat)=>T.int (i:Int) from rfl]
  rw[pP (λ(i:Nat)=>T.int (i:Int)) (λj=>!(ls.any λq=>decide (q.1=j))) (λf=>li (nv p lines.length ls f)) trivial]
  ·rfl
  ·intro j hj
   have hj:=List.mem_range.mp hj
   refine⟨_,rfl,?_,λh=>?_⟩
   ·simp?! only[DC,EC]
   ·have hfl:∀q∈ls,q.1≠j:=λq hq e=>by
     rw[Bool.not_eq_true',List.any_eq_false] at h
     exact h q hq (by simp[e])
    have hs:=vO hP E.nd E.key E.rl (by omega) j hj hfl μ
    simp?! only[hs]
 unfold ef
 simp?! only[hlen,rw_,lw,e1,h2,rm,lm,e2]
end Fw.E
namespace Fw.k73
open PySem Fw Fw.H Fw.E Fw.F Fw.J
def HI(p:Int)(n:Nat)(zs:List (Int×List Int)):List Int:=zs.foldl (λF q=>hJ p F (tm p q.1 q.2)) (List.replicate n 0)
def kH(zs:List (Int×List Int))(j:Nat):Int:=(zs.map λq=>q.1*g q.2 j).sum
theorem Nj(p:Int){xs ys:List Int}(h:xs.length=ys.length)(j:Nat):g (hJ p xs ys) j=(g xs j+g ys j)%p:=by
 rw[qd,G8 p (-1) xs ys j h]
 congr 1
 omega
theorem HJ{p:Int}(hp:0<p){n:Nat}:∀(zs:List (Int×List Int)) (F:List Int),Rw p n F→(∀q∈zs,q.2.length=n) →
  Rw p n (zs.foldl (λF q=>hJ p F (tm p q.1 q.2)) F)∧∀j,g (zs.foldl (λF q=>hJ p F (tm p q.1 q.2)) F) j=(g F j+kH zs j)%p
 | [],F,hF,_=>⟨hF,λj=>by
   have:=hF.g0 hp j
   show g F j=(g F j+0)%p
   rw[Int.add_zero,Int.emod_eq_of_lt this.1 this.2]⟩
 | q::zs,F,hF,h=>by
  have h1:=h q (.head _)
  have ht:=Ct (p:=p) hp q.1 h1
  have ih:=HJ hp zs (hJ p F (tm p q.1 q.2)) (J1 hp hF.1 ht.1) λr hr=>h r (.tail _ hr)
  refine⟨ih.1,λj=>?_⟩
  rw[List.foldl_cons,ih.2 j,Nj p (by rw[hF.1,ht.1]),MU]
  show _=(g F j+(q.1*g q.2 j+kH zs j))%p
  rw[Int.emod_add_emod,← Int.add_assoc,show g F j+q.1*g q.2 j%p+kH zs j=g F j+kH zs j+q.1*g q.2 j%p by omega,Int.add_emod_emod]
  congr 1
  omega
theorem Nk{p:Int}(hp:1<p){n:Nat}(zs:List (Int×List Int))(h:∀q∈zs,q.2.length=n):Rw p n (HI p n zs)∧∀j,g (HI p n zs) j=kH zs j%p:=by
 have h:=HJ (by omega) zs (List.replicate n 0) (m_ hp n) h
 refine⟨h.1,λj=>(h.2 j).trans ?_⟩
 have:g (List.replicate n (0:Int)) j=0:=by
  unfold g
  rw[List.getD_eq_getElem?_getD,List.getElem?_replicate]
  by_cases q:j<n<;>simp[q]
 rw[this,Int.zero_add]
theorem pf{p:Int}{v:Nat}(qs:Rows):∀(zs:List (Int×List Int)) (F:List Int),F.length=v→(∀q∈zs,q.2.length=v) →
  zs.foldl (λF q=>hJ p F (tm p q.1 (parts p qs q.2))) (parts p qs F)=parts p qs (zs.foldl (λF q=>hJ p F (tm p q.1 q.2)) F)
 | [],_,_,_=>rfl
 | q::zs,F,hF,h=>by
  have h1:=h q (.head _)
  have lt:(tm p q.1 q.2).length=v:=by unfold tm;rw[List.length_map,h1]
  rw[List.foldl_cons,List.foldl_cons,← Hr,← Ew p qs F (tm p q.1 q.2) (by rw[hF,lt])]
  refine pf qs zs _ ?_ λr hr=>h r (.tail _ hr)
  unfold hJ
  rw[List.length_map,List.length_zip,hF,lt,Nat.min_self]
theorem pg{α β:Type}{same:ag→Prop}{bd:BD}{body:DS}(f:α→T)(F:β→α→β)(J:β→Slots→Prop){μ:ag}(hs:same μ):∀(zs:List α),
  (∀b q e,q∈zs→J b e→∃e1 e2,bd (f q) e=some e1∧body e1 μ = .nx e2 μ∧J (F b q) e2)→∀b e,J b e→∃e',forL same bd body (zs.map f) e μ = .nx e' μ∧J (zs.foldl F b) e'
 | [],_,b,e,h=>⟨e,by rw[List.map_nil];unfold forL;rw[if_pos hs],h⟩
 | q::zs,step,b,e,h=>by
  obtain⟨e1,e2,h1,h2,h3⟩:=step b q e (.head _) h
  obtain⟨e',h4,h5⟩:=pg f F J hs zs (λb r e hr=>step b r e (.tail _ hr)) _ _ h3
  refine⟨e',?_,h5⟩
  rw[List.map_cons]
  unfold forL
  rw[if_pos hs]
  simp only[h1,h2]
  exact h4
theorem Nl(w:Nat):bW 0 (w:Int).toNat=(List.range w).map λ(j:Nat)=>T.int (j:Int):=by
 rw[Int.toNat_natCast]
 refine List.ext_getElem (by simp) λi h1 h2=>?_
 obtain⟨_,e⟩:=pO (List.getElem?_eq_getElem h1)
 rw[e]
 simp
def tri(q:Int×Int×List Int):T:=.tup [.int q.1,.int q.2.1,li q.2.2]
theorem vb:∀(ms ss:List Int) (cs:List (List Int)),gD (ms.map T.int) (ss.map T.int) (cs.map li)=(ms.zip (ss.zip cs)).map tri
 | [],_,_=>by simp[gD]
 | _::_,[],_=>by simp[gD]
 | _::_,_::_,[]=>by simp[gD]
 | m::ms,s::ss,c::cs=>by
  simp only[List.map_cons,gD,List.zip_cons_cons,vb ms ss cs]
  rfl
def pr(q:Int×Int×List Int):Int×List Int:=(q.1,q.2.1::q.2.2)
def lN(p:Int)(w:Nat)(rows:Rows)(is:List Nat)(ms:List Int):Prop:=ms.length=is.length∧∀j,j<w→p ∣ dot ms (col (linesAt rows is) j)-g (eu w 0) j
section
variable{p:Int}{w:Nat}{rows:Rows}
theorem Qh{p:Int}(hp:1<p){w:Nat}{f:Nat→Int}:((List.range w).map λj=>f j%p)=eu w 0↔∀j,j<w→p ∣ f j-g (eu w 0) j:=by
 have hR:=Hq (p:=p) hp w 0
 constructor
 ·intro h j hj
  have:g ((List.range w).map λj=>f j%p) j=f j%p:=by
   unfold g
   simp[hj]
  rw[← h,this]
  exact Int.dvd_self_sub_of_emod_eq rfl
 ·intro h
  refine List.ext_getElem? λj=>?_
  by_cases hj:j<w
  ·have e:f j%p=g (eu w 0) j:=K.BB hp (h j hj)
   rw[List.getElem?_map,List.getElem?_range hj,Option.map_some,e]
   unfold g
   have:j<(eu w 0).length:=by rw[uZ];exact hj
   simp[this]
  ·rw[List.getElem?_eq_none (by simp;omega),List.getElem?_eq_none (by rw[uZ];omega)]
theorem HK(H:Tbl p w rows)(hs:List Int){ms:List Int}(hm:Rw p ms.length ms)(hl:ms.length≤1000)(μ:ag) :
  ∃b,bI [.val (tb p w rows),.val (li hs),.val (li ms)] μ = .ok (.val (.bl b)) μ∧(b=true↔lN p w rows (rowsOf rows hs) ms):=by
 have hb:=H.pr.pos
 have hp0:0<p:=Int.lt_of_lt_of_le (by decide) hb.1
 have hp1:1<p:=Int.lt_of_lt_of_le (by decide) hb.1
 have hw:=H.w1
 have hw0:=H.w0
 have hn:=H.n
 have hlt:∀i∈rowsOf rows hs,i<rows.length:=kD
 have h24:(rowsOf rows hs).length≤24:=Nat.le_trans (jI rows hs) hn
 have hL:=jH H hlt
 have lL:=K.kF rows (rowsOf rows hs)
 have e1:eg [.val (tb p w rows),.val (li hs)] μ = .ok (.val (li (nums (rowsOf rows hs)))) μ:=F.wJ hn hs (.val (li hs)) μ rfl
 have e2:df [.val (tb p w rows),.val (li (nums (rowsOf rows hs)))] μ = .ok (.val (.lst ((linesAt rows (rowsOf rows hs)).map tu))) μ:=F.Aa (rowsOf rows hs) hlt (by omega) (.val (li (nums (rowsOf rows hs)))) μ rfl
 have e3:bS [.val (.int w)] μ = .ok (.val (tu (eu w 0))) μ:=F.wK w hw0 (by omega) μ
 have rw_:fh (w:Int)=true:=eB (by omega) (by omega)
 have ec:cy (λ_=>True) (aN 0) (dC (.bl true)) (aB (cal cm) [(ae 1),(ae 2),(aB (cal bz) [(ae 1),(ae 3),(ae 0)])]) [none,some (.val (.int p)),some (.val (li ms)),some (.val (.lst ((linesAt rows (rowsOf rows hs)).map tu)))] (bW 0 (w:Int).toNat) μ = .ok (((List.range w).map λj=>dot ms (col (linesAt rows (rowsOf rows hs)) j)%p).map T.int) μ:=by
  rw[Nl,bE (λ(j:Nat)=>T.int (j:Int)) (λj=>T.int (dot ms (col (linesAt rows (rowsOf rows hs)) j)%p)) trivial]
  ·rw[List.map_map];rfl
  ·intro j hj
   have hj:=List.mem_range.mp hj
   have a1:bz [.val (.int p),.val (.lst ((linesAt rows (rowsOf rows hs)).map tu)),.val (.int j)] μ = .ok (.val (li (col (linesAt rows (rowsOf rows hs)) j))) μ:=E.h_ hp0 hL (by rw[lL];omega) j hj _ μ rfl
   have a2:cm [.val (.int p),.val (li ms),.val (li (col (linesAt rows (rowsOf rows hs)) j))] μ = .ok (.val (.int (dot ms (col (linesAt rows (rowsOf rows hs)) j)%p))) μ:=F.z_ p ms _ (.val (li ms)) (.val (li _)) μ hp0 (λa ha=>⟨hm.2 a ha,by have:=hm.3 a ha;omega⟩) hl rfl rfl
   refine⟨_,rfl,?_⟩
   simp?! only[a1,a2]
 have ls:(((List.range w).map λj=>dot ms (col (linesAt rows (rowsOf rows hs)) j)%p).map T.int).length≤szL:=by simp[szL];omega
 have lw:(bW 0 (w:Int).toNat).length≤szL:=by rw[eE,Int.toNat_natCast];unfold szL;omega
 by_cases h:ms.length=(rowsOf rows hs).length
 ·have bq:((ms.length:Int)==((linesAt rows (rowsOf rows hs)).length:Int))=true:=by rw[lL,h];exact beq_self_eq_true _
  refine⟨((List.range w).map λj=>dot ms (col (linesAt rows (rowsOf rows hs)) j)%p)==eu w 0,?_,?_⟩
  ·unfold bI
   rw[b9,jx,hV]
   unfold eN
   simp?! only[e1,e2]
   rw[hX]
   unfold eO
   simp?! only[List.length_map,bq,Bool.not_true]
   rw[lR]
   unfold gj tb
   simp?! only[]
   rw[lS]
   unfold gk
   simp?! only[]
   rw[lT]
   unfold gm
   simp?! only[rw_,ec,ls,lw]
   rw[lU]
   unfold gp
   simp?! only[e3,ot,Dn]
  ·rw[beq_iff_eq,Qh hp1]
   exact⟨λq=>⟨h,q⟩,λq=>q.2⟩
 ·have bq:((ms.length:Int)==((linesAt rows (rowsOf rows hs)).length:Int))=false:=by rw[lL];exact beq_eq_false_iff_ne.mpr (by omega)
  refine⟨false,?_,⟨λq=>Bool.noConfusion q,λq=>absurd q.1 h⟩⟩
  unfold bI
  rw[b9,jx,hV]
  unfold eN
  simp?! only[e1,e2]
  rw[hX]
  unfold eO
  simp?! only[List.length_map,bq,Bool.not_false]
end
section
variable{p:Int}{w v:Nat}{rows qs:Rows}
theorem HL{p:Int}(hp:0<p)(xs ys:List Int)(hl:xs.length≤1000)(μ:ag):iC [.val (.int p),.val (li xs),.val (li ys)] μ = .ok (.val (li (hJ p xs ys))) μ:=by
 have ec:cy (λ_=>True) (b4 [0,1]) (dC (.bl true)) (ai aL (ai bD (ae 0) (ae 1)) (ae 2)) [none,none,some (.val (.int p))] (fA (xs.map T.int) (ys.map T.int)) μ = .ok ((hJ p xs ys).map T.int) μ:=by
  rw[gC,bE _ (λq:Int×Int => .int ((q.1+q.2)%p)) trivial]
  ·simp[hJ,Function.comp_def]
  ·rintro⟨a,b⟩ hq
   have hm:∀a:Int,aL (.int a) (.int p)=some (.int (a%p)):=λa=>cx _ _ hp
   refine⟨_,dB 0 1 _ _ _,?_⟩
   simp?! only[hm]
 have ls:(fA (xs.map T.int) (ys.map T.int)).length≤szL:=by rw[ix,List.length_map];unfold szL;omega
 unfold iC Cr
 simp?! only[and_self,ec,ls]
theorem EE{p:Int}(hp:0<p)(hp2:p<1000000)(n:Int){xs:List Int}{L:Nat}(h:Rw p L xs)(hl:L≤1000)(μ:ag):gE [.val (.int p),.val (li xs),.val (.int n)] μ = .ok (.val (li (tm p n xs))) μ:=by
 have e:iA [.val (.int p),.val (.int n),.val (li xs)] μ = .ok (.val (li (tm p n xs))) μ:=E.uW hp hp2 n xs μ h hl
 unfold gE zC
 simp?! only[e]
theorem pe(a:Int)(cs:List Int)(μ:ag)(hl:cs.length≤1000):b5 [.val (.int a),.val (li cs)] μ = .ok (.val (tu (a::cs))) μ:=K.pe a cs (.val (li cs)) μ hl rfl
theorem HM(G:Tbl p v qs)(fs:List Int)(μ:ag):jw [.val (tb p v qs),.val (tu fs)] μ = .ok (.val (li (parts p qs fs))) μ:=J.J0 G fs (.val (tu fs)) μ rfl
def handed(p:Int)(v:Nat)(ms ss:List Int)(cs:List (List Int)):List Int:=HI p v ((ms.zip (ss.zip cs)).map pr)
def CU:DS:=(aE 7 (aB (cal iC) [(ae 6),(ae 7),(aB (cal gE) [(ae 6),(aB (cal jw) [(ae 4),(aB (cal b5) [(ae 9),(ae 10)])]),(ae 8)])]))
theorem wM{ms ss:List Int}{cs:List (List Int)}{q:Int×Int×List Int}(h:q∈ms.zip (ss.zip cs)):q.1∈ms∧q.2.2∈cs:=by
 obtain⟨a,b,c⟩:=q
 obtain⟨h1,h2⟩:=List.of_mem_zip h
 exact⟨h1,(List.of_mem_zip h2).2⟩
theorem EF(G:Tbl p v qs)(ms ss:List Int)(cs:List (List Int))(hc:∀c∈cs,c.length+1=v)(same:ag→Prop)(μ:ag)(hS:same μ)(x0 x1 x2 x3 x5:Option SV):∃x8 x9 x10,
  forL same (b4 [8,9,10]) CU (gD (ms.map T.int) (ss.map T.int) (cs.map li)) [x0,x1,x2,x3,some (.val (tb p v qs)),x5,some (.val (.int p)),some (.val (li (List.replicate qs.length 0))),none,none,none] μ =
   .nx [x0,x1,x2,x3,some (.val (tb p v qs)),x5,some (.val (.int p)),some (.val (li (parts p qs (handed p v ms ss cs)))),x8,x9,x10] μ:=by
 have hb:=G.pr.pos
 have hp0:0<p:=Int.lt_of_lt_of_le (by decide) hb.1
 have hv:=G.w1
 have hn:=G.n
 rw[vb]
 obtain⟨e',h1,_,x8,x9,x10,rfl⟩:=pg (same:=same) (bd:=b4 [8,9,10]) (body:=CU) tri (λb q=>hJ p b (tm p q.1 (parts p qs (q.2.1::q.2.2))))
  (λb e=>b.length=qs.length∧∃x8 x9 x10,e=[x0,x1,x2,x3,some (.val (tb p v qs)),x5,some (.val (.int p)),some (.val (li b)),x8,x9,x10]) hS (ms.zip (ss.zip cs))
  (λb q e hq ax=>by
   obtain⟨hl,x8,x9,x10,he⟩:=ax
   subst he
   have hcl:=hc _ (wM hq).2
   have a1:=pe q.2.1 q.2.2 μ (by omega)
   have a2:=HM G (q.2.1::q.2.2) μ
   have a3:=EE hp0 (by omega) q.1 (K.Af hp0 qs (q.2.1::q.2.2)) (by omega) μ
   have a4:=HL hp0 b (tm p q.1 (parts p qs (q.2.1::q.2.2))) (by omega) μ
   refine⟨_,_,t7 8 9 10 _ _ _ _,?_,?_,some (.val (.int q.1)),some (.val (.int q.2.1)),some (.val (li q.2.2)),rfl⟩
   ·unfold CU
    simp?! only[a1,a2,a3,a4]
   ·unfold hJ tm
    rw[List.length_map,List.length_zip,List.length_map,K.kG,hl,Nat.min_self]) (List.replicate qs.length 0) _ ⟨List.length_replicate,none,none,none,rfl⟩
 refine⟨x8,x9,x10,?_⟩
 rw[h1]
 have e:(ms.zip (ss.zip cs)).foldl (λb q=>hJ p b (tm p q.1 (parts p qs (q.2.1::q.2.2)))) (List.replicate qs.length 0)=parts p qs (handed p v ms ss cs):=by
  rw[← K.rP p qs v]
  unfold handed HI
  rw[← pf qs _ (List.replicate v 0) List.length_replicate,List.foldl_map]
  ·rfl
  ·intro q hq
   obtain⟨z,hz,rfl⟩:=List.mem_map.mp hq
   have:=hc _ (wM hz).2
   show z.2.2.length+1=v
   exact this
 rw[e]
theorem J7(f:T→T→Option T)(rp:f (.lst [.int 0]) (.int (qs.length:Int))=some (li (List.replicate qs.length 0)))(x0 x1 x2 x3 x5 x6:Option SV)(μ:ag) :
  (aE 7 (pH f [(dC (.int 0))] (fz (aF (ae 4) (dC (.int 2)))))) [x0,x1,x2,x3,some (.val (tb p v qs)),x5,x6,none,none,none,none] μ = .nx [x0,x1,x2,x3,some (.val (tb p v qs)),x5,x6,some (.val (li (List.replicate qs.length 0))),none,none,none] μ:=by
 unfold tb
 simp?! only[IF,List.length_map,rp]
theorem EG(H:Tbl p w rows)(G:Tbl p v qs)(hs:List Int){ms ss:List Int}{cs:List (List Int)}(hm:Rw p ms.length ms)(hl:ms.length≤1000)(ho:lN p w rows (rowsOf rows hs) ms)(hc:∀c∈cs,c.length+1=v)(μ:ag) :
  gL [.val (tb p w rows),.val (li hs),.val (li ms),.val (li ss),.val (tb p v qs),.val (.lst (cs.map li))] μ = .ok (.val (li (parts p qs (handed p v ms ss cs)))) μ:=by
 have hn:=G.n
 obtain⟨b,e1,hb⟩:=HK H hs hm hl μ
 have hb:=hb.mpr ho
 subst hb
 have rp:=K.Nh qs.length (by omega)
 obtain⟨x8,x9,x10,lp⟩:=EF G ms ss cs hc (λ_=>True) μ trivial (some (.val (tb p w rows))) (some (.val (li hs))) (some (.val (li ms))) (some (.val (li ss))) (some (.val (.lst (cs.map li))))
 unfold gL
 rw[b9,xF,rZ]
 have s0:i9 (starts 11 [.val (tb p w rows),.val (li hs),.val (li ms),.val (li ss),.val (tb p v qs),.val (.lst (cs.map li))]) μ = .nx [some (.val (tb p w rows)),some (.val (li hs)),some (.val (li ms)),some (.val (li ss)),some (.val (tb p v qs)),some (.val (.lst (cs.map li))),some (.val (.int p)),none,none,none,none] μ:=by
  unfold i9 tb
  simp?! only[]
 rw[s0,RS.cD,r8]
 have s1:i_ [some (.val (tb p w rows)),some (.val (li hs)),some (.val (li ms)),some (.val (li ss)),some (.val (tb p v qs)),some (.val (.lst (cs.map li))),some (.val (.int p)),none,none,none,none] μ = .nx [some (.val (tb p w rows)),some (.val (li hs)),some (.val (li ms)),some (.val (li ss)),some (.val (tb p v qs)),some (.val (.lst (cs.map li))),some (.val (.int p)),none,none,none,none] μ:=by
  unfold i_ tb
  simp?! only[beq_self_eq_true,Bool.not_true]
 rw[s1,RS.cD,r_]
 unfold lg
 simp?! only[e1,Bool.not_true]
 rw[sa]
 have s3:lh [some (.val (tb p w rows)),some (.val (li hs)),some (.val (li ms)),some (.val (li ss)),some (.val (tb p v qs)),some (.val (.lst (cs.map li))),some (.val (.int p)),none,none,none,none] μ = .nx [some (.val (tb p w rows)),some (.val (li hs)),some (.val (li ms)),some (.val (li ss)),some (.val (tb p v qs)),some (.val (.lst (cs.map li))),some (.val (.int p)),some (.val (li (List.replicate qs.length 0))),none,none,none] μ:=by
  exact J7 oq rp _ _ _ _ _ _ μ
 rw[s3,RS.cD,sd,show lj=eL (rH (ae 2) (ae 3) (ae 5)) (b4 [8,9,10]) CU from rfl]
 simp?! only[zk,and_self,lp]
 rw[se]
 unfold ll
 simp?! only[]
theorem rQ(H:Tbl p w rows)(hs:List Int){ms:List Int}(hm:Rw p ms.length ms)(hl:ms.length≤1000)(ho:¬ lN p w rows (rowsOf rows hs) ms)(ss:T)(x5:SV)(μ:ag) :
  cz [.val (tb p w rows),.val (li hs),.val (li ms),.val ss,.val (tb p v qs),x5] μ = .err (.exc "NoFit" none) μ:=by
 obtain⟨b,e1,hb⟩:=HK H hs hm hl μ
 cases b with
 | true=>exact absurd (hb.mp rfl) ho
 | false =>
  have h:gM (starts 11 [.val (tb p w rows),.val (li hs),.val (li ms),.val ss,.val (tb p v qs),x5]) μ = .err (.exc "NoFit" none) [some (.val (tb p w rows)),some (.val (li hs)),some (.val (li ms)),some (.val ss),some (.val (tb p v qs)),some x5,some (.val (.int p)),none,none,none,none] μ:=by
   unfold gM
   have i0:j5 μ (.val (tb p w rows)) (.int 0)=some (.val (.int p)):=rfl
   have i1:j5 μ (.val (tb p v qs)) (.int 0)=some (.val (.int p)):=rfl
   simp?! only[i0,i1,beq_self_eq_true,Bool.not_true,e1,Bool.not_false]
   rfl
  unfold cz
  rw[b9,h]
  show R.err _ _=_
  rw[List.take_length]
theorem EH(H:Tbl p w rows)(hs ms ss t u:T)(x5:SV){a:Int}(ha:a≠p)(μ:ag) :
  cz [.val (tb p w rows),.val hs,.val ms,.val ss,.val (.tup [.int a,t,u]),x5] μ = .err (.exc "NoFit" none) μ:=by
 have h:gM (starts 11 [.val (tb p w rows),.val hs,.val ms,.val ss,.val (.tup [.int a,t,u]),x5]) μ = .err (.exc "NoFit" none) [some (.val (tb p w rows)),some (.val hs),some (.val ms),some (.val ss),some (.val (.tup [.int a,t,u])),some x5,some (.val (.int p)),none,none,none,none] μ:=by
  unfold gM
  have i0:j5 μ (.val (tb p w rows)) (.int 0)=some (.val (.int p)):=rfl
  have i1:j5 μ (.val (.tup [.int a,t,u])) (.int 0)=some (.val (.int a)):=rfl
  have bq:(a==p)=false:=beq_eq_false_iff_ne.mpr ha
  simp?! only[i0,i1,bq,Bool.not_false]
  rfl
 unfold cz
 rw[b9,h]
 show R.err _ _=_
 rw[List.take_length]
theorem J8{f:Str→Option Bool}{d:D}{e:Slots}{μ μ1:ag}{n:Str}{b:Bool}(h:d e μ = .ok (.val (.exc n none)) μ1)(hf:f n=some b):qy f d e μ = .ok (.val (.bl b)) μ1:=by
 unfold qy
 rw[h]
 show (match f n with|some b=>R.ok (SV.val (T.bl b)) μ1|none=>R.bad)=_
 rw[hf]
theorem ph{a0 a1 a2 a3 a4:T}{x5:SV}{μ:ag}(h:cz [.val a0,.val a1,.val a2,.val a3,.val a4,x5] μ = .err (.exc "NoFit" none) μ)(b:Bool) :
  cO [.val a0,.val a1,.val a2,.val a3,.val a4,x5,.val (.bl b)] μ = .ok (.val (.bl true)) μ:=by
 have hb:(yX (aB cz [(ae 0),(ae 1),(ae 2),(ae 3),(ae 4),(ae 5)])) [some (.val a0),some (.val a1),some (.val a2),some (.val a3),some (.val a4),some x5,some (.val (.bl b)),none] μ = .err (.exc "NoFit" none) [some (.val a0),some (.val a1),some (.val a2),some (.val a3),some (.val a4),some x5,some (.val (.bl b)),none] μ:=by
  simp?! only[h]
  rfl
 have q1:∀c,qy (λn=>if n="NoFit" then some c else none) (ae 7) [some (.val a0),some (.val a1),some (.val a2),some (.val a3),some (.val a4),some x5,some (.val (.bl b)),some (.val (.exc "NoFit" none))] μ = .ok (.val (.bl c)) μ:=λc=>J8 rfl (if_pos rfl)
 unfold cO
 rw[b9,xP,sf]
 cases b with
 | true =>
  have t0:fH (starts 8 [.val a0,.val a1,.val a2,.val a3,.val a4,x5,.val (.bl true)]) μ = .rt (.val (.bl true)) μ:=by
   unfold fH
   simp?! only[]
   unfold DG
   rw[hb]
   show (((if ("NoFit":Str)="NoFit" then (sAs 7 "NoFit" (aS (w_ (qy (λn=>if n="NoFit" then some true else none) (ae 7)) (kJ (qy (λn=>if n="NoFit" then some false else none) (ae 7)))))) else tL):DS) [some (.val a0),some (.val a1),some (.val a2),some (.val a3),some (.val a4),some x5,some (.val (.bl true)),none] μ).seq _=_
   rw[if_pos rfl]
   unfold sAs kr
   simp?! only[q1,Bool.not_false]
   rfl
  rw[t0]
  simp?! only[]
 | false =>
  have t0:fH (starts 8 [.val a0,.val a1,.val a2,.val a3,.val a4,x5,.val (.bl false)]) μ = .nx [some (.val a0),some (.val a1),some (.val a2),some (.val a3),some (.val a4),some x5,some (.val (.bl false)),none] μ:=by
   unfold fH
   simp?! only[]
  have t1:jb [some (.val a0),some (.val a1),some (.val a2),some (.val a3),some (.val a4),some x5,some (.val (.bl false)),none] μ = .rt (.val (.bl true)) μ:=by
   unfold jb DG
   rw[hb]
   show ((if ("NoFit":Str)="NoFit" then (sAs 7 "NoFit" (aS (qy (λn=>if n="NoFit" then some true else none) (ae 7)))) else tL):DS) [some (.val a0),some (.val a1),some (.val a2),some (.val a3),some (.val a4),some x5,some (.val (.bl false)),none] μ=_
   rw[if_pos rfl]
   unfold sAs kr
   simp?! only[q1]
   rfl
  rw[t0,RS.cD,sg,t1]
  simp?! only[]
end
section
variable{p:Int}{w v:Nat}{rows qs:Rows}{is:List Nat}
theorem pd(H:Tbl p w rows)(hi:∀i∈is,i<rows.length)(hn:is.length≤24){ms:List Int}(hm:Rw p is.length ms)(h:lN p w rows is ms)(μ:ag) :
  dN [.val (tb p w rows),.val (li (nums is)),.val (li ms)] μ = .ok (.val (.bl true)) μ:=K.pd H hi hn hm h.2 (.val (li ms)) μ (KU μ ms) rfl
theorem Ag(H:Tbl p w rows)(hi:∀i∈is,i<rows.length)(hn:is.length≤24){ms:List Int}(hm:Rw p ms.length ms)(hl:ms.length≤1000)(μ:ag) :
  ∃b,dN [.val (tb p w rows),.val (li (nums is)),.val (li ms)] μ = .ok (.val (.bl b)) μ∧(b=false→¬ lN p w rows is ms):=by
 have hb:=H.pr.pos
 have hp0:0<p:=Int.lt_of_lt_of_le (by decide) hb.1
 have hw:=H.w1
 have hw0:=H.w0
 have ln:(nums is).length=is.length:=by unfold nums;rw[List.length_map]
 have lm:ms.length≤szL:=by unfold szL;omega
 have m8:∀a:Int,aL (.int a) (.int p)=some (.int (a%p)):=λa=>cx _ _ hp0
 have rw_:fh (w:Int)=true:=eB (by omega) (by omega)
 have wh:=λS hS=>K.Bz hm S μ hS
 have hy:=KU μ ms
 have hlen:=hy.len
 have hit:=hy.it
 have s0:(zj [3,4,5] (ae 0)) (starts 8 [.val (tb p w rows),.val (li (nums is)),.val (li ms)]) μ = .nx [some (.val (tb p w rows)),some (.val (li (nums is))),some (.val (li ms)),some (.val (.int p)),some (.val (.int w)),some (.val (.tup (rows.map rt))),none,none] μ:=by
  unfold tb
  simp?! only[]
 have hil:isS .list μ (.val (li ms))=some (.bl true):=rfl
 by_cases h:ms.length=is.length
 ·have hm:Rw p is.length ms:=⟨h,hm.2,hm.3⟩
  have bq:((ms.length:Int)==(is.length:Int))=true:=by rw[h];exact beq_self_eq_true _
  have key:(λr=>(∃e',r=RS.nx e' μ)∨(r = .rt (.val (.bl false)) μ∧¬ lN p w rows is ms)) (forL (λ_=>True) (aN 6) K.lM (bW 0 (w:Int).toNat) [some (.val (tb p w rows)),some (.val (li (nums is))),some (.val (li ms)),some (.val (.int p)),some (.val (.int w)),some (.val (.tup (rows.map rt))),none,none] μ):=by
   refine mr (P:=λr=>(∃e',r=RS.nx e' μ)∨(r = .rt (.val (.bl false)) μ∧¬ lN p w rows is ms)) (λi e μ1=>∃x6 x7,e=[some (.val (tb p w rows)),some (.val (li (nums is))),some (.val (li ms)),some (.val (.int p)),some (.val (.int w)),some (.val (.tup (rows.map rt))),x6,x7]∧μ=μ1)
    (λ_ _ _ _=>trivial) (λj t e μ1 ht ⟨x6,x7,he,hμ⟩=>?_) (λe μ1 ⟨_,_,_,hμ⟩ => .inl ⟨e,by rw[hμ]⟩) ⟨none,none,rfl,rfl⟩
   subst he hμ
   obtain⟨k,rfl,hj,hk⟩:=nC ht
   have hj:j<w:=by simpa using hj
   have ek:k=(j:Int):=by omega
   subst ek
   have ez:∀S:ag→Prop,S μ→cy S (b4 [0,1]) (dC (.bl true)) (ai aM (ae 1) (aF (aF (aF (ae 3) (ae 0)) (dC (.int 1))) (ae 2))) [none,none,some (.val (.int j)),some (.val (.tup (rows.map rt)))] (fA ((nums is).map T.int) (ms.map T.int)) μ = .ok (((nums is).zip ms).map λq=>T.int (q.2*g (fK rows q.1.toNat).2 j)) μ:=λS hS=>by
    rw[gC,bE _ (λq:Int×Int=>T.int (q.2*g (fK rows q.1.toNat).2 j)) hS]
    rintro⟨a,b⟩ hq
    obtain⟨m1,m2⟩:=List.of_mem_zip hq
    obtain⟨a1,a2⟩:=K.BC hi m1
    have hR:=yu H a2
    have b0:=hm.2 b m2
    have b1:=hm.3 b m2
    have a3:atI ((fK rows a.toNat).2.map T.int) (j:Int)=some (.int (g (fK rows a.toNat).2 j)):=by rw[atg (by omega) (by rw[hR.1];omega),Int.toNat_natCast]
    have hmu:aM (.int b) (.int (g (fK rows a.toNat).2 j))=some (.int (b*g (fK rows a.toNat).2 j)):=K.Ht hb.2 ⟨b0,b1⟩
    refine⟨_,dB 0 1 _ _ _,?_⟩
    simp?! only[a1,rt,a3,hmu]
   have lz:(fA ((nums is).map T.int) (ms.map T.int)).length≤szL:=by rw[ix,List.length_map,ln];unfold szL;omega
   have hs:ma (.lst (((nums is).zip ms).map λq=>T.int (q.2*g (fK rows q.1.toNat).2 j)))=some (.int (dot ms (col (linesAt rows is) j))):=by rw[mq,K.yv rows j is ms hm.1]
   refine⟨_,rfl,?_⟩
   by_cases hd:p ∣ dot ms (col (linesAt rows is) j)-g (eu w 0) j
   ·have HG:=K.BB (by omega) hd
    rw[K.Nf w j hw0] at HG
    have hne:fNe (.int (if (j:Int)=0 then 1 else 0)) (.int (if ((j:Int)==0)=true then 1 else 0))=some (.bl false):=by
     rw[pJ]
     by_cases h:(j:Int)=0<;>simp[h]
    have r:K.lM [some (.val (tb p w rows)),some (.val (li (nums is))),some (.val (li ms)),some (.val (.int p)),some (.val (.int w)),some (.val (.tup (rows.map rt))),some (.val (.int j)),x7] μ = .nx [some (.val (tb p w rows)),some (.val (li (nums is))),some (.val (li ms)),some (.val (.int p)),some (.val (.int w)),some (.val (.tup (rows.map rt))),some (.val (.int j)),some (.val (.int (dot ms (col (linesAt rows is) j))))] μ:=by
     unfold K.lM
     simp?! only[hit]
     rw[ez _ (by simp)]
     simp?! only[lz,hs,m8,HG,hne]
    show RS.tY (K.lM [some (.val (tb p w rows)),some (.val (li (nums is))),some (.val (li ms)),some (.val (.int p)),some (.val (.int w)),some (.val (.tup (rows.map rt))),some (.val (.int j)),x7] μ) _ _
    rw[r]
    exact⟨_,_,rfl,rfl⟩
   ·have hne:fNe (.int (dot ms (col (linesAt rows is) j)%p)) (.int (if ((j:Int)==0)=true then 1 else 0))=some (.bl true):=by
     rw[pJ]
     have:¬ dot ms (col (linesAt rows is) j)%p=(if ((j:Int)==0)=true then 1 else 0):=λq=>by
      refine hd ?_
      have e:g (eu w 0) j=dot ms (col (linesAt rows is) j)%p:=by
       rw[q,K.Nf w j hw0]
       by_cases h:(j:Int)=0<;>simp[h]
      rw[e]
      exact Int.dvd_self_sub_of_emod_eq rfl
     rw[beq_eq_false_iff_ne.mpr this]
     rfl
    have r:K.lM [some (.val (tb p w rows)),some (.val (li (nums is))),some (.val (li ms)),some (.val (.int p)),some (.val (.int w)),some (.val (.tup (rows.map rt))),some (.val (.int j)),x7] μ = .rt (.val (.bl false)) μ:=by
     unfold K.lM
     simp?! only[hit]
     rw[ez _ (by simp)]
     simp?! only[lz,hs,m8,hne]
    show RS.tY (K.lM [some (.val (tb p w rows)),some (.val (li (nums is))),some (.val (li ms)),some (.val (.int p)),some (.val (.int w)),some (.val (.tup (rows.map rt))),some (.val (.int j)),x7] μ) _ _
    rw[r]
    exact .inr ⟨rfl,λq=>hd (q.2 j hj)⟩
  rcases key with ⟨e',hf⟩|⟨hf,ho⟩
  ·refine⟨true,?_,λq=>Bool.noConfusion q⟩
   show fnV 8 K.gH _ _=_
   unfold K.gH
   rw[b9,gg,s0,RS.cD]
   simp?! only[tI,hil,hlen,List.length_map,ln,bq,hit,Bool.not_true]
   rw[wh _ (by simp)]
   simp?! only[List.length_map,lm,K.all_true,rw_,hf]
  ·refine⟨false,?_,λ_=>ho⟩
   show fnV 8 K.gH _ _=_
   unfold K.gH
   rw[b9,gg,s0,RS.cD]
   simp?! only[tI,hil,hlen,List.length_map,ln,bq,hit,Bool.not_true]
   rw[wh _ (by simp)]
   simp?! only[List.length_map,lm,K.all_true,rw_,hf]
 ·have bq:((ms.length:Int)==(is.length:Int))=false:=beq_eq_false_iff_ne.mpr (by omega)
  refine⟨false,?_,λ_ q=>h q.1⟩
  show fnV 8 K.gH _ _=_
  unfold K.gH
  rw[b9,gg,s0,RS.cD]
  simp?! only[tI,hil,hlen,List.length_map,ln,bq,hit,Bool.not_true,Bool.not_false]
end
theorem yw(F:Nat→Int)(a b:Nat)(hab:a≠b)(h0:∀j,j≠a→j≠b→F j=0):∀n:Nat,((List.range n).map F).sum=(if a<n then F a else 0)+(if b<n then F b else 0)
 | 0=>by simp
 | n+1=>by
  rw[List.range_succ,List.map_append,List.sum_append,yw F a b hab h0 n,List.map_cons,List.map_nil,List.sum_cons,List.sum_nil]
  by_cases ea:n=a
  ·subst ea
   rw[if_neg (Nat.lt_irrefl _),if_pos (Nat.lt_succ_self _)]
   by_cases hb:b<n
   ·rw[if_pos hb,if_pos (by omega)];omega
   ·rw[if_neg hb,if_neg (by omega)];omega
  ·by_cases eb:n=b
   ·subst eb
    rw[if_neg (Nat.lt_irrefl _),if_pos (Nat.lt_succ_self _)]
    by_cases ha:a<n
    ·rw[if_pos ha,if_pos (by omega)];omega
    ·rw[if_neg ha,if_neg (by omega)];omega
   ·rw[h0 n ea eb]
    by_cases ha:a<n<;>by_cases hb:b<n
    ·rw[if_pos ha,if_pos hb,if_pos (by omega),if_pos (by omega)];omega
    ·rw[if_pos ha,if_neg hb,if_pos (by omega),if_neg (by omega)];omega
    ·rw[if_neg ha,if_pos hb,if_neg (by omega),if_pos (by omega)];omega
    ·rw[if_neg ha,if_neg hb,if_neg (by omega),if_neg (by omega)];omega
section
variable{p:Int}{m:Nat}{ls:List Ld}{ns rows:List (List Int)}
theorem J9(E:kB p m m ls ns rows){f:Nat}{q:Ld}(h:q∈ls):g (nv p m ls f) q.1=(-g q.2 f)%p:=by
 rw[Ni p m ls f q.1 (E.key q h),nR E.nd h]
theorem CV{f j:Nat}(hj:j<m)(h:∀q∈ls,q.1≠j):g (nv p m ls f) j=if j=f then 1 else 0:=by
 rw[Ni p m ls f j hj,find_none h]
theorem Nm(hp:1<p)(E:kB p m m ls ns rows){f:Nat}(hf:f∈freeOf m ls){q:Ld}(h:q∈ls):p ∣ dot (nv p m ls f) q.2:=by
 obtain⟨hfm,hfl⟩:=ED hf
 have hR:=CQ hp m ls f
 rw[← yt _ _ m hR.1 (E.rl q h).1,yw _ q.1 f (hfl q h),if_pos (E.key q h),if_pos hfm,J9 E h,CV hfm hfl,if_pos rfl,E.one q h]
 ·have:=Int.emod_add_mul_ediv (-g q.2 f) p
  exact⟨-((-g q.2 f) / p),by grind⟩
 ·intro j ha hb
  by_cases hj:j<m
  ·by_cases hl:∃q'∈ls,q'.1=j
   ·obtain⟨q',h',rfl⟩:=hl
    rw[E.off q h q' h' ha,Int.mul_zero]
   ·rw[CV hj (λq' h' e=>hl ⟨q',h',e⟩),if_neg hb,Int.zero_mul]
  ·have:g (nv p m ls f) j=0:=by
    unfold g
    rw[List.getD_eq_getElem?_getD,List.getElem?_eq_none (by rw[hR.1];omega)]
    rfl
   rw[this,Int.zero_mul]
theorem EI(hp:1<p)(E:kB p m m ls ns rows){f:Nat}(hf:f∈freeOf m ls):∀r∈rows,p ∣ dot (nv p m ls f) r:=by
 refine (E.eq (nv p m ls f)).mpr ⟨λq h=>Nm hp E hf h,λr h=>?_⟩
 unfold Z
 rw[← yt _ _ m (CQ hp m ls f).1 (E.rn r h).1,yw _ m (m+1) (by omega),if_neg (by omega),if_neg (by omega)]
 ·exact⟨0,by omega⟩
 ·intro j _ _
  by_cases hj:j<m
  ·rw[E.no r h j hj,Int.mul_zero]
  ·have:g r j=0:=by
    unfold g
    rw[List.getD_eq_getElem?_getD,List.getElem?_eq_none (by rw[(E.rn r h).1];omega)]
    rfl
   rw[this,Int.mul_zero]
end
section
variable{p:Int}{w v:Nat}{rows qs:Rows}{is:List Nat}
theorem HN(n:Nat)(fs:List (List Int)):okT (n+2) (.lst (fs.map li))=true:=by
 rw[pI,tx]
 intro t ht
 obtain⟨x,_,rfl⟩:=List.mem_map.mp ht
 unfold li
 rw[pI]
 exact v9 _ _
theorem J_(fs:List (List Int)):fEq (.lst (fs.map li)) (.lst [])=some (.bl (fs.isEmpty)):=by
 rw[xc (HN 98 fs) (by rw[pI,yS]),B1]
 cases fs with
 | nil=>rw[List.map_nil,Ft];rfl
 | cons a fs=>rw[List.map_cons,IM];rfl
theorem Ka(H:Tbl p w rows)(hi:∀i∈is,i<rows.length)(hn:is.length≤24){ms:List Int}(hm:Rw p is.length ms)(ho:lN p w rows is ms){c:Int}(hc:0≤c∧c<1000000000)(μ:ag) :
  ∃ms',fG [.val (tb p w rows),.val (li (nums is)),.val (li ms),.val (.int c)] μ = .ok (.val (li ms')) μ∧Rw p is.length ms'∧lN p w rows is ms':=by
 have hb:=H.pr.pos
 have hp0:0<p:=Int.lt_of_lt_of_le (by decide) hb.1
 have hp1:1<p:=Int.lt_of_lt_of_le (by decide) hb.1
 have hw:=H.w1
 have hL:=jH H hi
 have lL:=K.kF rows is
 have ln:(nums is).length=is.length:=by unfold nums;rw[List.length_map]
 have ec:cy (λ_=>True) (aN 0) (dC (.bl true)) (aF (aF (ae 1) (ae 0)) (dC (.int 1))) [none,some (.val (.tup (rows.map rt)))] ((nums is).map T.int) μ = .ok ((linesAt rows is).map tu) μ:=by
  rw[← u4,bE (λ(i:Nat)=>T.int (i:Int)) (λ(i:Nat)=>tu (fK rows i).2) trivial]
  ·unfold linesAt;rw[List.map_map];rfl
  ·intro i hm
   have hlt:=hi i hm
   obtain⟨a1,a2⟩:=K.BC (rows:=rows) hi (k:=(i:Int)) (List.mem_map.mpr ⟨i,hm,rfl⟩)
   rw[Int.toNat_natCast] at a1
   refine⟨_,rfl,?_⟩
   simp?! only[a1,rt]
 have ls:((nums is).map T.int).length≤szL:=by rw[List.length_map,ln];unfold szL;omega
 obtain⟨ld,nn,e1,Ez⟩:=va H.pr hL (by rw[lL];omega) (by omega) (.val (.lst ((linesAt rows is).map tu))) μ rfl
 have e1:gK [.val (.int p),.val (.int w),.val (.lst ((linesAt rows is).map tu))] μ = .ok (.val (.lst (((freeOf (linesAt rows is).length ld).map λf=>nv p (linesAt rows is).length ld f).map li))) μ:=by
  show fnV 5 ef _ _=_
  rw[List.map_map]
  rw[show (fnV 5 ef:FN)=fnV 5 Fw.E.ef from rfl,b9,e1]
  simp?! only[]
  rfl
 generalize hfr:((freeOf (linesAt rows is).length ld).map λf=>nv p (linesAt rows is).length ld f)=fr at e1
 have good:∀x∈fr,Rw p is.length x∧∀j,j<w→p ∣ dot x (col (linesAt rows is) j):=by
  rw[← hfr]
  intro x hx
  obtain⟨f,hf,rfl⟩:=List.mem_map.mp hx
  refine⟨by rw[← lL];exact CQ hp1 _ _ _,λj hj=>?_⟩
  refine EI hp1 Ez hf _ ?_
  unfold cols
  exact List.mem_map.mpr ⟨j,List.mem_range.mpr hj,rfl⟩
 have s0:nI (starts 9 [.val (tb p w rows),.val (li (nums is)),.val (li ms),.val (.int c)]) μ = .nx [some (.val (tb p w rows)),some (.val (li (nums is))),some (.val (li ms)),some (.val (.int c)),some (.val (.int p)),some (.val (.int w)),some (.val (.tup (rows.map rt))),none,none] μ:=by
  unfold nI tb
  simp?! only[]
 have h64:d_ (.int c) (.int 64)=some (.int (c / 64)):=by first|exact tq _ _ (by decide)|rfl
 have vP:=J_ fr
 by_cases hE:fr=[]∨c%2=0
 ·refine⟨ms,?_,hm,ho⟩
  unfold fG
  rw[b9,wH,pW,s0,RS.cD,pX]
  unfold nJ
  simp?! only[ec,ls,e1]
  rw[pY]
  unfold nK
  rcases hE with rfl|hE
  ·simp?! only[CG]
  ·cases hfe:fr.isEmpty
   ·rw[hfe] at vP
    simp?! only[vP,hE,beq_self_eq_true]
   ·rw[hfe] at vP
    simp?! only[vP]
 ·have hne:fr≠[]:=λq=>hE (.inl q)
  have VL:(c%2==0)=false:=beq_eq_false_iff_ne.mpr λq=>hE (.inr q)
  have VM:0<fr.length:=List.length_pos_iff.mpr hne
  have hie:fr.isEmpty=false:=by cases fr with|nil=>exact absurd rfl hne|cons _ _=>rfl
  rw[hie] at vP
  have k0:=Int.emod_nonneg (c / 2) (show (fr.length:Int)≠0 by omega)
  have k1:=Int.emod_lt_of_pos (c / 2) (show 0<(fr.length:Int) by omega)
  have hat:atI (fr.map li) (c / 2%(fr.length:Int))=some (li (fr[(c / 2%(fr.length:Int)).toNat]'(by omega))):=by
   rw[jM k0 (by omega)]
  have Qi:fr[(c / 2%(fr.length:Int)).toNat]'(by omega)∈fr:=List.getElem_mem _
  generalize fr[(c / 2%(fr.length:Int)).toNat]'(by omega)=y at hat Qi
  obtain⟨gy,gd⟩:=good y Qi
  have HP:aL (.int (c / 2)) (.int (fr.length:Int))=some (.int (c / 2%(fr.length:Int))):=cx _ _ (by omega)
  have ez:cy (λ_=>True) (b4 [0,1]) (dC (.bl true)) (ai aL (ai bD (ae 0) (ai aM (ai d_ (ae 3) (dC (.int 64))) (ae 1))) (ae 2)) [none,none,some (.val (.int p)),some (.val (.int c))] (fA (ms.map T.int) (y.map T.int)) μ = .ok ((E.sub p (-(c / 64)) ms y).map T.int) μ:=by
   rw[gC,bE _ (λq:Int×Int => .int ((q.1 - -(c / 64)*q.2)%p)) trivial]
   ·simp[E.sub,Function.comp_def]
   ·rintro⟨a,b⟩ hq
    have hmd:∀a:Int,aL (.int a) (.int p)=some (.int (a%p)):=λa=>cx _ _ hp0
    have hmu:aM (.int (c / 64)) (.int b)=some (.int (c / 64*b)):=ib _ _ (by omega) (by omega)
    refine⟨_,dB 0 1 _ _ _,?_⟩
    simp?! only[h64,hmd,hmu]
    rw[show a - -(c / 64)*b=a+c / 64*b by grind]
  have lz:(fA (ms.map T.int) (y.map T.int)).length≤szL:=by rw[ix,List.length_map,hm.1];unfold szL;omega
  refine⟨E.sub p (-(c / 64)) ms y,?_,yn hp0 _ hm.1 gy.1,by rw[(yn (p:=p) hp0 _ hm.1 gy.1).1],λj hj=>?_⟩
  ·unfold fG
   rw[b9,wH,pW,s0,RS.cD,pX]
   unfold nJ
   simp?! only[ec,ls,e1]
   rw[pY]
   unfold nK
   simp?! only[vP,VL]
   rw[xM]
   unfold qE
   simp?! only[List.length_map,HP,hat]
   rw[xN]
   unfold qF
   simp?! only[and_self,ez,lz]
  ·obtain⟨u,hu⟩:=JW (p:=p) (n:=-(c / 64)) (r:=col (linesAt rows is) j) (x:=ms) (t:=y) (by rw[hm.1,gy.1])
   obtain⟨s,hs⟩:=gd j hj
   obtain⟨t,ht⟩:=ho.2 j hj
   rw[m7 (col (linesAt rows is) j) (E.sub p (-(c / 64)) ms y),m7 (col (linesAt rows is) j) ms,m7 (col (linesAt rows is) j) y] at hu
   exact⟨u+c / 64*s+t,by grind⟩
theorem yx{α β:Type}(f:α→β)(ns:List α)(lo hi:Option Int):jq (ns.map f) lo hi=(jq ns lo hi).map f:=by
 unfold jq
 rw[List.length_map,← List.map_drop,← List.map_take]
theorem sP{α:Type}(xs:List α)(lo hi:Option Int):∀x∈jq xs lo hi,x∈xs:=λx h=>by
 unfold jq at h
 exact List.mem_of_mem_drop (List.mem_of_mem_take h)
theorem BE{α:Type}(xs:List α)(lo hi:Option Int):(jq xs lo hi).length≤xs.length:=by
 unfold jq
 rw[List.length_take,List.length_drop]
 omega
theorem EJ{p:Int}(hp:1<p){ms:List Int}{n:Nat}(hm:Rw p n ms)(hn:n≤400)(way c:Int)(μ:ag) :
  ∃bs,dE [.val (li ms),.val (.int p),.val (.int way),.val (.int c)] μ = .ok (.val (li bs)) μ∧Rw p bs.length bs∧bs.length≤1000:=by
 have hlen:=hm.1
 have vP:fEq (li ms) (.lst [])=some (.bl (ms==[])):=tE ms []
 have zero:∀x∈([0]:List Int),0≤x∧x<p:=λx hx=>by
  rw[List.mem_singleton] at hx;omega
 by_cases h0:way=0∨ms=[]
 ·refine⟨ms++[0],?_,⟨rfl,λx hx=>?_,λx hx=>?_⟩,by rw[List.length_append,hlen];simp;omega⟩
  ·have fa:bD (li ms) (.lst [.int 0])=some (li (ms++[0])):=by
    unfold li
    rw[jo _ _ (by simp[szL];omega),List.map_append];rfl
   unfold dE
   rw[b9,mJ,jy]
   unfold iD
   rcases h0 with rfl|rfl
   ·simp?! only[beq_self_eq_true,fa]
   ·cases hw:(way==0)
    ·simp?! only[hw,vP,beq_self_eq_true,fa]
    ·simp?! only[hw,fa]
  ·rcases List.mem_append.mp hx with h|h
   ·exact hm.2 x h
   ·exact (zero x h).1
  ·rcases List.mem_append.mp hx with h|h
   ·exact hm.3 x h
   ·exact (zero x h).2
 ·have hw0:(way==0)=false:=beq_eq_false_iff_ne.mpr λq=>h0 (.inl q)
  have hne:ms≠[]:=λq=>h0 (.inr q)
  have hnb:(ms==[])=false:=beq_eq_false_iff_ne.mpr hne
  have VM:0<ms.length:=List.length_pos_iff.mpr hne
  by_cases h1:way=1
  ·refine⟨jq ms none (some (-1)),?_,⟨rfl,λx hx=>hm.2 x (sP _ _ _ x hx),λx hx=>hm.3 x (sP _ _ _ x hx)⟩,Nat.le_trans (BE _ _ _) (by omega)⟩
   subst h1
   have hc:Dt (li ms) none (some (-1))=some (li (jq ms none (some (-1)))):=by
    unfold li
    show some (T.lst (jq (ms.map T.int) none (some (-1))))=_
    rw[yx]
   unfold dE
   rw[b9,mJ,jy]
   unfold iD
   simp?! only[hw0,vP,hnb]
   rw[mK]
   unfold jQ
   simp?! only[beq_self_eq_true,sC,nh,ni,hc]
  ·have hw1:(way==1)=false:=beq_eq_false_iff_ne.mpr h1
   have k0:=Int.emod_nonneg c (show (ms.length:Int)≠0 by omega)
   have k1:=Int.emod_lt_of_pos c (show 0<(ms.length:Int) by omega)
   have HP:aL (.int c) (.int (ms.length:Int))=some (.int (c%(ms.length:Int))):=cx _ _ (by omega)
   have hat:atI (ms.map T.int) (c%(ms.length:Int))=some (.int (g ms (c%(ms.length:Int)).toNat)):=atg k0 k1
   generalize hk:c%(ms.length:Int)=k at *
   have hmd:∀a:Int,aL (.int a) (.int p)=some (.int (a%p)):=λa=>cx _ _ (by omega)
   have c1:Dt (li ms) none (some k)=some (li (jq ms none (some k))):=by
    unfold li
    show some (T.lst (jq (ms.map T.int) none (some k)))=_
    rw[yx]
   have c2:Dt (li ms) (some (k+1)) none=some (li (jq ms (some (k+1)) none)):=by
    unfold li
    show some (T.lst (jq (ms.map T.int) (some (k+1)) none))=_
    rw[yx]
   have l1:=BE ms none (some k)
   have l2:=BE ms (some (k+1)) none
   generalize hA:jq ms none (some k)=A at *
   generalize hB:jq ms (some (k+1)) none=B at *
   have mA:∀x∈A,x∈ms:=by rw[← hA];exact sP _ _ _
   have mB:∀x∈B,x∈ms:=by rw[← hB];exact sP _ _ _
   have r0:=Int.emod_nonneg (g ms k.toNat+1) (show p≠0 by omega)
   have r1:=Int.emod_lt_of_pos (g ms k.toNat+1) (show 0<p by omega)
   have f1:bD (li A) (.lst [.int ((g ms k.toNat+1)%p)])=some (li (A++[(g ms k.toNat+1)%p])):=by
    unfold li
    rw[jo _ _ (by simp[szL];omega),List.map_append];rfl
   have f2:bD (li (A++[(g ms k.toNat+1)%p])) (li B)=some (li (A++[(g ms k.toNat+1)%p]++B)):=by
    unfold li
    rw[jo _ _ (by simp[szL];omega),← List.map_append]
   refine⟨A++[(g ms k.toNat+1)%p]++B,?_,⟨rfl,λx hx=>?_,λx hx=>?_⟩,?_⟩
   ·unfold dE
    rw[b9,mJ,jy]
    unfold iD
    simp?! only[hw0,vP,hnb]
    rw[mK]
    unfold jQ
    simp?! only[hw1]
    rw[uk]
    unfold mD
    simp?! only[List.length_map,HP]
    rw[um]
    unfold mE
    simp?! only[sC,nh,ni,c1,hat,hmd,f1,c2,f2]
   ·rcases List.mem_append.mp hx with h|h
    ·rcases List.mem_append.mp h with h|h
     ·exact hm.2 x (mA x h)
     ·rw[List.mem_singleton] at h;omega
    ·exact hm.2 x (mB x h)
   ·rcases List.mem_append.mp hx with h|h
    ·rcases List.mem_append.mp h with h|h
     ·exact hm.3 x (mA x h)
     ·rw[List.mem_singleton] at h;omega
    ·exact hm.3 x (mB x h)
   ·simp;omega
end
section
variable{p:Int}{w v:Nat}{rows qs:Rows}{is:List Nat}
theorem CY(p m:Int):∀b x:List Int,hJ p b (tm p m x)=(b.zip x).map λq=>(q.1+m*q.2)%p
 | [],_=>by simp[hJ]
 | _::_,[]=>by simp[hJ,tm]
 | a::b,y::x=>by
  have ih:=CY p m b x
  unfold hJ tm at ih ⊢
  simp only[List.map_cons,List.zip_cons_cons,List.cons.injEq]
  exact⟨Int.add_emod_emod _ _ _,ih⟩
theorem BF(qs:Rows)(ms ss:List Int)(cs:List (List Int))(hc:∀c∈cs,c.length+1=v):(ms.zip (ss.zip cs)).foldl (λb q=>hJ p b (tm p q.1 (parts p qs (q.2.1::q.2.2)))) (List.replicate qs.length 0)=parts p qs (handed p v ms ss cs):=by
 rw[← K.rP p qs v]
 unfold handed HI
 rw[← pf qs _ (List.replicate v 0) List.length_replicate,List.foldl_map]
 ·rfl
 ·intro q hq
  obtain⟨z,hz,rfl⟩:=List.mem_map.mp hq
  exact hc _ (wM hz).2
def EK:DS:=(aA (aE 12 (aB (cal b6) [(ae 1),(ai bD (eY [(ae 10)]) (ae 11))]))
 (aE 8 (br (me (ae 8) (ae 12)) [none,none,some 5,some 9] (b4 [0,1]) (dC (.bl true)) (ai aL (ai bD (ae 0) (ai aM (ae 3) (ae 1))) (ae 2)))))
theorem HQ(G:Tbl p v qs){m s:Int}{c b:List Int}(hm:0≤m∧m<p)(hc:c.length+1=v)(hl:b.length=qs.length)(μ:ag)(x0 x2 x3 x4 x6 x7 x12 x13 x14:Option SV) :
  EK [x0,some (.val (tb p v qs)),x2,x3,x4,some (.val (.int p)),x6,x7,some (.val (li b)),some (.val (.int m)),some (.val (.int s)),some (.val (li c)),x12,x13,x14] μ =
   .nx [x0,some (.val (tb p v qs)),x2,x3,x4,some (.val (.int p)),x6,x7,some (.val (li (hJ p b (tm p m (parts p qs (s::c)))))),some (.val (.int m)),some (.val (.int s)),some (.val (li c)),some (.val (li (parts p qs (s::c)))),x13,x14] μ:=by
 have hb:=G.pr.pos
 have hp0:0<p:=Int.lt_of_lt_of_le (by decide) hb.1
 have hv:=G.w1
 have hn:=G.n
 have fa:bD (.lst [.int s]) (li c)=some (li (s::c)):=by
  unfold li
  rw[jo _ _ (by simp[szL];omega)];rfl
 have e1:b6 [.val (tb p v qs),.val (li (s::c))] μ = .ok (.val (li (parts p qs (s::c)))) μ:=K.u_ G (s::c) (.val (li (s::c))) μ rfl
 have ez:cy (λ_=>True) (b4 [0,1]) (dC (.bl true)) (ai aL (ai bD (ae 0) (ai aM (ae 3) (ae 1))) (ae 2)) [none,none,some (.val (.int p)),some (.val (.int m))] (fA (b.map T.int) ((parts p qs (s::c)).map T.int)) μ = .ok ((hJ p b (tm p m (parts p qs (s::c)))).map T.int) μ:=by
  rw[CY,gC,bE _ (λq:Int×Int => .int ((q.1+m*q.2)%p)) trivial]
  ·rw[List.map_map];rfl
  ·rintro⟨a,d⟩ hq
   have hmd:∀a:Int,aL (.int a) (.int p)=some (.int (a%p)):=λa=>cx _ _ hp0
   have hmu:aM (.int m) (.int d)=some (.int (m*d)):=K.Ht hb.2 hm
   refine⟨_,dB 0 1 _ _ _,?_⟩
   simp?! only[hmd,hmu]
 have lz:(fA (b.map T.int) ((parts p qs (s::c)).map T.int)).length≤szL:=by rw[ix,List.length_map,hl];unfold szL;omega
 unfold EK
 simp?! only[fa,e1,and_self,ez,lz]
theorem HR(G:Tbl p v qs)(ms ss:List Int)(cs:List (List Int))(hm:∀m∈ms,0≤m∧m<p)(hc:∀c∈cs,c.length+1=v)(same:ag→Prop)(μ:ag)(hS:same μ)(x0 x2 x3 x4 x6 x7:Option SV):∃x9 x10 x11 x12,
  forL same (b4 [9,10,11]) EK (gD (ms.map T.int) (ss.map T.int) (cs.map li)) [x0,some (.val (tb p v qs)),x2,x3,x4,some (.val (.int p)),x6,x7,some (.val (li (List.replicate qs.length 0))),none,none,none,none,none,none] μ =
   .nx [x0,some (.val (tb p v qs)),x2,x3,x4,some (.val (.int p)),x6,x7,some (.val (li (parts p qs (handed p v ms ss cs)))),x9,x10,x11,x12,none,none] μ:=by
 rw[vb]
 obtain⟨e',h1,_,x9,x10,x11,x12,rfl⟩:=pg (same:=same) (bd:=b4 [9,10,11]) (body:=EK) tri (λb q=>hJ p b (tm p q.1 (parts p qs (q.2.1::q.2.2))))
  (λb e=>b.length=qs.length∧∃x9 x10 x11 x12,e=[x0,some (.val (tb p v qs)),x2,x3,x4,some (.val (.int p)),x6,x7,some (.val (li b)),x9,x10,x11,x12,none,none]) hS (ms.zip (ss.zip cs))
  (λb q e hq ax=>by
   obtain⟨hl,x9,x10,x11,x12,he⟩:=ax
   subst he
   have d:=HQ G (s:=q.2.1) (hm _ (wM hq).1) (hc _ (wM hq).2) hl μ x0 x2 x3 x4 x6 x7 x12 none none
   refine⟨_,_,t7 9 10 11 _ _ _ _,d,?_,some (.val (.int q.1)),some (.val (.int q.2.1)),some (.val (li q.2.2)),some (.val (li (parts p qs (q.2.1::q.2.2)))),rfl⟩
   unfold hJ tm
   rw[List.length_map,List.length_zip,List.length_map,K.kG,hl,Nat.min_self]) (List.replicate qs.length 0) _ ⟨List.length_replicate,none,none,none,none,rfl⟩
 refine⟨x9,x10,x11,x12,?_⟩
 rw[h1,BF qs ms ss cs hc]
def behind(p:Int)(v:Nat)(ms:List Int)(cs:List (List Int)):List Int:=(List.range (v-1)).map λj=>((ms.zip cs).map λq=>q.1*g q.2 j).sum%p
def Kb:DS:=(cu (ae 13) (ai aL (dUn ma (br (me (ae 2) (ae 4)) [none,none,some 14] (b4 [0,1]) (dC (.bl true)) (ai aM (ae 0) (aF (ae 1) (ae 2))))) (ae 5)))
theorem CZ:∀(ms:List Int) (cs:List (List Int)),fA (ms.map T.int) (cs.map li)=(ms.zip cs).map λq => .tup [.int q.1,li q.2]
 | [],_=>by simp[fA]
 | _::_,[]=>by simp[fA]
 | m::ms,c::cs=>by simp only[List.map_cons,fA,List.zip_cons_cons,CZ ms cs]
theorem HS{ms:List Int}{cs:List (List Int)}(hp:2≤p∧p≤97)(hm:∀m∈ms,0≤m∧m<p)(hl:ms.length≤1000)(hc:∀c∈cs,c.length+1=v){j:Nat}(hj:j+1<v)(k kc:Nat)(us:List Int)(hu:us.length≤1000)(M:ag)(hk:M[k]?=some (true,li us))(hkc:M[kc]?=some (true,.lst (cs.map li)))(x0 x1 x3 x6 x7 x8 x9 x10 x11 x12:Option SV) :
  Kb [x0,x1,some (.val (li ms)),x3,some (.cel kc),some (.val (.int p)),x6,x7,x8,x9,x10,x11,x12,some (.cel k),some (.val (.int (j:Int)))] M =
   .nx [x0,x1,some (.val (li ms)),x3,some (.cel kc),some (.val (.int p)),x6,x7,x8,x9,x10,x11,x12,some (.cel k),some (.val (.int (j:Int)))] (M.set k (true,li (us++[((ms.zip cs).map λq=>q.1*g q.2 j).sum%p]))):=by
 have hrd:rd M (.cel kc)=some (.lst (cs.map li)):=by rw[mm,hkc];rfl
 have ez:∀S:ag→Prop,S M→cy S (b4 [0,1]) (dC (.bl true)) (ai aM (ae 0) (aF (ae 1) (ae 2))) [none,none,some (.val (.int (j:Int)))] (fA (ms.map T.int) (cs.map li)) M = .ok ((ms.zip cs).map λq=>T.int (q.1*g q.2 j)) M:=λS hS=>by
  rw[CZ,bE _ (λq:Int×List Int=>T.int (q.1*g q.2 j)) hS]
  rintro⟨a,c⟩ hq
  obtain⟨m1,m2⟩:=List.of_mem_zip hq
  have hcl:=hc c m2
  have a3:atI (c.map T.int) (j:Int)=some (.int (g c j)):=by rw[atg (by omega) (by omega),Int.toNat_natCast]
  have hmu:aM (.int a) (.int (g c j))=some (.int (a*g c j)):=K.Ht hp.2 (hm a m1)
  refine⟨_,dB 0 1 _ _ _,?_⟩
  simp?! only[a3,hmu]
 have lz:(fA (ms.map T.int) (cs.map li)).length≤szL:=by rw[ix,List.length_map];unfold szL;omega
 have hs:ma (.lst ((ms.zip cs).map λq=>T.int (q.1*g q.2 j)))=some (.int ((ms.zip cs).map λq=>q.1*g q.2 j).sum):=mq _ _
 have hmd:∀a:Int,aL (.int a) (.int p)=some (.int (a%p)):=λa=>cx _ _ (by omega)
 have hls:qq (.cel k) M=some ():=nj hk
 have hap:∀t,appendAt (.cel k) t M=some (M.set k (true,T.lst (us.map T.int++[t]))):=λt=>append_at hk (by rw[List.length_map];unfold szL;omega)
 unfold Kb
 simp?! only[hls,hkc]
 rw[ez _ (by simp[hkc])]
 simp?! only[lz,hs,hmd,hap]
 unfold li
 rw[List.map_append]
 rfl
end
section
variable{p:Int}{w v:Nat}{rows qs:Rows}{is:List Nat}
theorem Np(G:Tbl p v qs){ms ss:List Int}{cs:List (List Int)}(hm:∀m∈ms,0≤m∧m<p)(hl:ms.length≤1000)(hc:∀c∈cs,c.length+1=v)(t0:T)(kc:Nat)(μ:ag)(hkc:μ[kc]?=some (true,.lst (cs.map li))) :
  iE [.val t0,.val (tb p v qs),.val (li ms),.val (li ss),.cel kc] μ = .ok (.val (.lst [li (parts p qs (handed p v ms ss cs)),li (behind p v ms cs)])) μ:=by
 have hb:=G.pr.pos
 have hp0:0<p:=Int.lt_of_lt_of_le (by decide) hb.1
 have hv:=G.w1
 have hv0:=G.w0
 have hn:=G.n
 have s0:p0 (starts 15 [.val t0,.val (tb p v qs),.val (li ms),.val (li ss),.cel kc]) μ = .nx [some (.val t0),some (.val (tb p v qs)),some (.val (li ms)),some (.val (li ss)),some (.cel kc),some (.val (.int p)),some (.val (.int v)),some (.val (.tup (qs.map rt))),none,none,none,none,none,none,none] μ:=by
  unfold p0 tb
  simp?! only[]
 have ec:cy (λ_=>True) (aN 0) (dC (.bl true)) (dC (.int 0)) [none] (qs.map rt) μ = .ok ((List.replicate qs.length (0:Int)).map T.int) μ:=by
  rw[bE rt (λ_=>T.int 0) trivial]
  ·rw[List.map_replicate,List.map_const']
  ·intro q _
   exact⟨_,rfl,rfl⟩
 have lq:(qs.map rt).length≤szL:=by rw[List.length_map];unfold szL;omega
 obtain⟨x9,x10,x11,x12,lp⟩:=HR G ms ss cs hm hc (λμ'=>True∧True∧Option.map (λx=>x.snd) μ'[kc]?=Option.map (λx=>x.snd) μ[kc]?) μ ⟨trivial,trivial,rfl⟩ (some (.val t0)) (some (.val (li ms))) (some (.val (li ss))) (some (.cel kc)) (some (.val (.int v))) (some (.val (.tup (qs.map rt))))
 have hkl:kc<μ.length:=(List.getElem?_eq_some_iff.mp hkc).1
 have ew:((v:Int)-1)=((v-1:Nat):Int):=by omega
 have rw_:fh ((v-1:Nat):Int)=true:=eB (by omega) (by omega)
 obtain⟨e',M',hf,x14,rfl,rfl⟩:=ic (same:=λ_=>True) (b:=aN 14) (ts:=bW 0 ((v-1:Nat):Int).toNat) (body:=Kb)
  (I:=λi e M=>∃x14,e=[some (.val t0),some (.val (tb p v qs)),some (.val (li ms)),some (.val (li ss)),some (.cel kc),some (.val (.int p)),some (.val (.int v)),some (.val (.tup (qs.map rt))),some (.val (li (parts p qs (handed p v ms ss cs)))),x9,x10,x11,x12,some (.cel μ.length),x14] ∧
   μ++[(true,li ((List.range i).map λj=>((ms.zip cs).map λq=>q.1*g q.2 j).sum%p))]=M)
  (λ_ _ _ _=>trivial) (λj t e M ht ax=>by
   obtain⟨x14,he,hM⟩:=ax
   subst he hM
   obtain⟨k,rfl,hj,hk⟩:=nC ht
   have hj:j<v-1:=by simpa using hj
   have ek:k=(j:Int):=by omega
   subst ek
   have d:=HS hb hm hl hc (j:=j) (by omega) μ.length kc ((List.range j).map λj=>((ms.zip cs).map λq=>q.1*g q.2 j).sum%p) (by simp;omega) (μ++[(true,li ((List.range j).map λj=>((ms.zip cs).map λq=>q.1*g q.2 j).sum%p))]) fE (by rw[List.getElem?_append_left hkl];exact hkc)
    (some (.val t0)) (some (.val (tb p v qs))) (some (.val (li ss))) (some (.val (.int v))) (some (.val (.tup (qs.map rt)))) (some (.val (li (parts p qs (handed p v ms ss cs))))) x9 x10 x11 x12
   refine⟨_,_,_,rfl,d,some (.val (.int (j:Int))),rfl,?_⟩
   rw[nA,List.range_succ,List.map_append]
   rfl)
  (e:=[some (.val t0),some (.val (tb p v qs)),some (.val (li ms)),some (.val (li ss)),some (.cel kc),some (.val (.int p)),some (.val (.int v)),some (.val (.tup (qs.map rt))),some (.val (li (parts p qs (handed p v ms ss cs)))),x9,x10,x11,x12,some (.cel μ.length),none]) (μ:=μ++[(true,.lst [])]) ⟨none,rfl,rfl⟩
 rw[eE,Int.toNat_natCast] at hf
 rw[show ((List.range (v-1)).map λj=>((ms.zip cs).map λq=>q.1*g q.2 j).sum%p)=behind p v ms cs from rfl] at hf
 unfold iE
 rw[b9,GU,zF,s0,RS.cD,zG]
 unfold uo
 simp?! only[ec,lq]
 rw[zH,show uq=eL (rH (ae 2) (ae 3) (ae 4)) (b4 [9,10,11]) EK from rfl]
 have s2:(eL (rH (ae 2) (ae 3) (ae 4)) (b4 [9,10,11]) EK) [some (.val t0),some (.val (tb p v qs)),some (.val (li ms)),some (.val (li ss)),some (.cel kc),some (.val (.int p)),some (.val (.int v)),some (.val (.tup (qs.map rt))),some (.val (li (List.replicate qs.length 0))),none,none,none,none,none,none] μ = .nx [some (.val t0),some (.val (tb p v qs)),some (.val (li ms)),some (.val (li ss)),some (.cel kc),some (.val (.int p)),some (.val (.int v)),some (.val (.tup (qs.map rt))),some (.val (li (parts p qs (handed p v ms ss cs)))),x9,x10,x11,x12,none,none] μ:=by
  rw[hkc] at lp
  simp?! only[zk,hkc]
  exact lp
 rw[show T.lst ((List.replicate qs.length (0:Int)).map T.int)=li (List.replicate qs.length 0) from rfl,s2,RS.cD,zI]
 unfold ur
 simp?! only[]
 rw[zJ,show uu=eL (bx (ai vf (ae 6) (dC (.int 1)))) (aN 14) Kb from rfl]
 simp?! only[ew,rw_,Int.toNat_natCast,hf]
 rw[zK]
 unfold uv
 simp?! only[Cc]
 rw[List.take_left]
theorem Qj{a b:List Int}(h:a.length=b.length)(e:∀j,j<a.length→g a j=g b j):a=b:=by
 refine List.ext_getElem h λj h1 h2=>?_
 have:=e j h1
 unfold g at this
 simpa [h1,h2] using this
theorem Ah:∀(ms ss:List Int) (cs:List (List Int)),ss.length=cs.length→kH ((ms.zip (ss.zip cs)).map pr) 0=dot ms ss
 | [],_,_,_=>by simp[kH,dot]
 | _::_,[],_,_=>by simp[kH,dot]
 | _::_,_::_,[],h=>by simp at h
 | m::ms,s::ss,c::cs,h=>by
  have ih:=Ah ms ss cs (by simpa using h)
  unfold kH at ih ⊢
  simp only[List.zip_cons_cons,List.map_cons,List.sum_cons,ih]
  rfl
theorem Ai(j:Nat):∀(ms ss:List Int) (cs:List (List Int)),ss.length=cs.length→kH ((ms.zip (ss.zip cs)).map pr) (j+1)=((ms.zip cs).map λq=>q.1*g q.2 j).sum
 | [],_,_,_=>by simp[kH]
 | _::_,[],[],_=>by simp[kH]
 | _::_,[],_::_,h=>by simp at h
 | _::_,_::_,[],h=>by simp at h
 | m::ms,s::ss,c::cs,h=>by
  have ih:=Ai j ms ss cs (by simpa using h)
  unfold kH at ih ⊢
  simp only[List.zip_cons_cons,List.map_cons,List.sum_cons,ih]
  rfl
theorem EL(H:Tbl p w rows)(hi:∀i∈is,i<rows.length){ms fs:List Int}{cs:List (List Int)}(hf:Rw p w fs)(hm:Rw p is.length ms)(ho:lN p w rows is ms)(hl:cs.length=is.length)(hc:∀c∈cs,c.length+1=v)(hv:0<v) :
  handed p v ms (is.map λi=>g (parts p rows fs) i) cs=g fs 0::behind p v ms cs:=by
 have hb:=H.pr.pos
 have hz:∀q∈(ms.zip ((is.map λi=>g (parts p rows fs) i).zip cs)).map pr,q.2.length=v:=λq hq=>by
  obtain⟨z,hz,rfl⟩:=List.mem_map.mp hq
  exact hc _ (wM hz).2
 obtain⟨h1,h2⟩:=Nk (p:=p) (n:=v) (by omega) _ hz
 have ls:(is.map λi=>g (parts p rows fs) i).length=cs.length:=by rw[List.length_map,hl]
 have lb:(behind p v ms cs).length=v-1:=by unfold behind;rw[List.length_map,List.length_range]
 unfold handed
 refine Qj (by rw[h1.1,List.length_cons,lb];omega) λj hj=>?_
 rw[h1.1] at hj
 rw[h2 j]
 cases j with
 | zero =>
  have hh:=K.hid H hi hf hm ho.2
  rw[K.BA _ is ms hm.1] at hh
  rw[Ah _ _ _ ls,hh]
  simp[g]
 | succ j =>
  rw[Ai j _ _ _ ls]
  have:g (g fs 0::behind p v ms cs) (j+1)=g (behind p v ms cs) j:=by simp[g]
  rw[this]
  unfold behind g
  simp[show j<v-1 by omega]
end
theorem iu(ns:List Int)(k:Int)(h0:0≤k)(h1:k≤1000):∃c,∀μ,bB [.val (.lst (ns.map T.int)),.val (.int k)] μ = .ok (.val (.int c)) μ:=K.iu ns k h0 h1
theorem Nd(c:Int):∃p,lQ p∧∀μ,nH [.val (.int c)] μ = .ok (.val (.int p)) μ:=K.Nd c
theorem qf(ns:List Int){p:Int}(hP:lQ p)(at_:Int)(ha:0≤at_∧at_≤500)(μ:ag) :
  ∃(w:Nat) (rows:Rows),fP [.val (.lst (ns.map T.int)),.val (.int at_),.val (.int p)] μ = .ok (.val (tb p w rows)) μ∧Tbl p w rows∧w≤6∧rows.length≤11∧∀q∈rows,0≤q.1∧q.1<5:=K.qf ns hP at_ ha μ
theorem h_(c base:Int)(n:Nat)(bd:Bool)(hm:0<base)(hm2:base<1000000)(hn:n≤1000)(μ:ag) :
  ∃r,cp [.val (.int c),.val (.int base),.val (.int n),.val (.bl bd)] μ = .ok (.val (li r)) μ∧Rw base n r:=K.Hx c base n bd hm hm2 hn μ
theorem u9(c:Int):∃hs:List Int,hs.length≤6∧(∀h∈hs,0≤h∧h<6)∧∀μ,il [.val (.int c)] μ = .ok (.val (li hs)) μ:=K.u9 c
theorem VN:IG (.int 10) (.int 9)=some (.int 1000000000):=by
 show (if (0:Int)≤9∧(9:Int)≤1000 ∧ -(2 ^ 64)<(10:Int)∧(10:Int)<2 ^ 64 then some (T.int ((10:Int) ^ (9:Int).toNat)) else none)=_
 rw[if_pos (by decide)];rfl
theorem Nq:(("open":Str)=="shut")=false:=by decide +kernel
section
variable{p:Int}{w v:Nat}{rows qs:Rows}
def chB:DS:=(cu (ae 11) (aB (cal cp) [(aB (cal bB) [(ae 0),(ai bD (dC (.int 44)) (ae 12))]),(ae 5),(ai vf (aF (ae 3) (dC (.int 1))) (dC (.int 1))),(ai fEq (ai aL (ai d_ (ae 8) (dC (.int 4))) (dC (.int 2))) (dC (.int 0)))]))
theorem Kc(ns:List Int)(G:Tbl p v qs){n:Nat}(hn:n≤24)(c:Int)(μ:ag)(x1 x2 x4 x6 x7 x9 x10:Option SV):∃(cs:List (List Int)) (x12:Option SV),cs.length=n∧(∀q∈cs,Rw p (v-1) q) ∧
  forL (λ_=>True) (aN 12) chB (bW 0 (n:Int).toNat) [some (.val (.lst (ns.map T.int))),x1,x2,some (.val (tb p v qs)),x4,some (.val (.int p)),x6,x7,some (.val (.int c)),x9,x10,some (.cel μ.length),none,none,none,none,none,none,none,none,none] (μ++[(true,.lst [])]) =
   .nx [some (.val (.lst (ns.map T.int))),x1,x2,some (.val (tb p v qs)),x4,some (.val (.int p)),x6,x7,some (.val (.int c)),x9,x10,some (.cel μ.length),x12,none,none,none,none,none,none,none,none] (μ++[(true,.lst (cs.map li))]):=by
 have hb:=G.pr.pos
 have hv:=G.w1
 have hv0:=G.w0
 have ew:((v:Int)-1)=((v-1:Nat):Int):=by omega
 obtain⟨e',M',hf,x12,cs,h1,h2,rfl,rfl⟩:=ic (same:=λ_=>True) (b:=aN 12) (ts:=bW 0 (n:Int).toNat) (body:=chB)
  (I:=λi e M=>∃x12 cs,cs.length=i∧(∀q∈cs,Rw p (v-1) q)∧e=[some (.val (.lst (ns.map T.int))),x1,x2,some (.val (tb p v qs)),x4,some (.val (.int p)),x6,x7,some (.val (.int c)),x9,x10,some (.cel μ.length),x12,none,none,none,none,none,none,none,none]∧μ++[(true,.lst (cs.map li))]=M)
  (λ_ _ _ _=>trivial) (λj t e M ht ax=>by
   obtain⟨x12,cs,h1,h2,he,hM⟩:=ax
   subst he hM
   obtain⟨k,rfl,hj,hk⟩:=nC ht
   have hj:j<n:=by simpa using hj
   have ek:k=(j:Int):=by omega
   subst ek
   obtain⟨d,hd⟩:=iu ns (44+(j:Int)) (by omega) (by omega)
   obtain⟨r,hr,hR⟩:=h_ d p (v-1) (c / 4%2==0) (by omega) (by omega) (by omega) (μ++[(true,.lst (cs.map li))])
   have i1:j5 (μ++[(true,.lst (cs.map li))]) (.val (tb p v qs)) (.int 1)=some (.val (.int v)):=rfl
   have hls:qq (.cel μ.length) (μ++[(true,.lst (cs.map li))])=some ():=nj fE
   have hap:appendAt (.cel μ.length) (li r) (μ++[(true,.lst (cs.map li))])=some (List.set (μ++[(true,T.lst (cs.map li))]) μ.length (true,T.lst (cs.map li++[li r]))):=append_at fE (by rw[List.length_map,h1];unfold szL;omega)
   refine⟨_,_,_,rfl,?_,some (.val (.int (j:Int))),cs++[r],by rw[List.length_append,h1];rfl,λq hq=>?_,rfl,rfl⟩
   ·unfold chB
    simp?! only[hls,hd,i1,ew,hr,hap]
    rw[nA,List.map_append];rfl
   ·rcases List.mem_append.mp hq with h|h
    ·exact h2 q h
    ·rw[List.mem_singleton] at h;subst h;exact hR)
  (e:=[some (.val (.lst (ns.map T.int))),x1,x2,some (.val (tb p v qs)),x4,some (.val (.int p)),x6,x7,some (.val (.int c)),x9,x10,some (.cel μ.length),none,none,none,none,none,none,none,none,none]) (μ:=μ++[(true,.lst [])]) ⟨none,[],rfl,λ_ h=>(nomatch h),rfl,rfl⟩
 refine⟨cs,x12,by rw[h1,eE,Int.toNat_natCast],h2,hf⟩
theorem Aj(ns:List Int)(H:Tbl p w rows)(G:Tbl p v qs)(hs:List Int){fs:List Int}(hf:Rw p w fs)(t:T)(μ:ag)(ht:ky [.val (tb p w rows),.val (li hs)] μ = .ok (.val t) μ):∃(c:Int) (cs:List (List Int)) (x12:Option SV),(0≤c∧c<1000000000)∧cs.length=(rowsOf rows hs).length∧(∀q∈cs,Rw p (v-1) q) ∧
  nM (starts 21 [.val (.lst (ns.map T.int)),.val (tb p w rows),.val (li hs),.val (tb p v qs),.val (li fs)]) μ =
   kA [some (.val (.lst (ns.map T.int))),some (.val (tb p w rows)),some (.val (li hs)),some (.val (tb p v qs)),some (.val (li fs)),some (.val (.int p)),some (.val (li (nums (rowsOf rows hs)))),some (.val t),some (.val (.int c)),some (.val (li (parts p rows fs))),some (.val (li ((rowsOf rows hs).map λi=>g (parts p rows fs) i))),some (.cel μ.length),x12,none,none,none,none,none,none,none,none] (μ++[(true,.lst (cs.map li))]):=by
 have hb:=H.pr.pos
 have hn:=H.n
 have h24:(rowsOf rows hs).length≤24:=Nat.le_trans (jI rows hs) hn
 obtain⟨c4,hc4⟩:=iu ns 4 (by decide) (by decide)
 obtain⟨cs,x12,l1,l2,lp⟩:=Kc ns G h24 (c4%1000000000) μ (some (.val (tb p w rows))) (some (.val (li hs))) (some (.val (li fs))) (some (.val (li (nums (rowsOf rows hs))))) (some (.val t)) (some (.val (li (parts p rows fs)))) (some (.val (li ((rowsOf rows hs).map λi=>g (parts p rows fs) i))))
 refine⟨c4%1000000000,cs,x12,by omega,l1,l2,?_⟩
 have i0:j5 μ (.val (tb p w rows)) (.int 0)=some (.val (.int p)):=rfl
 have e1:ja [.val (tb p w rows),.val (li hs)] μ = .ok (.val (li (nums (rowsOf rows hs)))) μ:=K.yq hn hs (.val (li hs)) μ rfl
 have e4:b6 [.val (tb p w rows),.val (li fs)] μ = .ok (.val (li (parts p rows fs))) μ:=K.u_ H fs (.val (li fs)) μ rfl
 have ec:cy (λ_=>True) (aN 0) (dC (.bl true)) (aF (ae 1) (ae 0)) [none,some (.val (li (parts p rows fs)))] ((nums (rowsOf rows hs)).map T.int) μ = .ok (((rowsOf rows hs).map λi=>g (parts p rows fs) i).map T.int) μ:=by
  rw[← u4,bE (λ(i:Nat)=>T.int (i:Int)) (λ(i:Nat)=>T.int (g (parts p rows fs) i)) trivial]
  ·rw[List.map_map];rfl
  ·intro i hi
   have hlt:=kD i hi
   have a:atI ((parts p rows fs).map T.int) (i:Int)=some (.int (g (parts p rows fs) i)):=by rw[atg (by omega) (by rw[K.kG];omega),Int.toNat_natCast]
   refine⟨_,rfl,?_⟩
   simp?! only[a]
 have ln:(nums (rowsOf rows hs)).length=(rowsOf rows hs).length:=by unfold nums;rw[List.length_map]
 have ls:((nums (rowsOf rows hs)).map T.int).length≤szL:=by rw[List.length_map,ln];unfold szL;omega
 have m9:aL (.int c4) (.int 1000000000)=some (.int (c4%1000000000)):=cx _ _ (by decide)
 have rw_:fh ((rowsOf rows hs).length:Int)=true:=eB (by omega) (by omega)
 rw[xQ]
 unfold qL
 simp?! only[i0]
 rw[xR]
 unfold qM
 simp?! only[e1]
 rw[xS]
 unfold qN
 simp?! only[ht]
 rw[xT]
 unfold qO
 simp?! only[hc4,VN,m9]
 rw[xU]
 unfold qP
 simp?! only[e4]
 rw[xV]
 unfold qQ
 simp?! only[ec,ls]
 rw[xW]
 unfold qR
 simp?! only[]
 rw[xX,show qS=eL (bx (fz (ae 6))) (aN 12) chB from rfl]
 simp?! only[List.length_map,ln,rw_]
 rw[show T.lst (((rowsOf rows hs).map λi=>g (parts p rows fs) i).map T.int)=li ((rowsOf rows hs).map λi=>g (parts p rows fs) i) from rfl,lp,RS.cD]
theorem HU(H:Tbl p w rows)(hs:List Int)(μ:ag):(∃tv,ky [.val (tb p w rows),.val (li hs)] μ = .ok (.val (.tup [.str "shut",tu tv])) μ∧Rw p w tv∧(∀l∈linesAt rows (rowsOf rows hs),p ∣ dot l tv)∧g tv 0=1) ∨
  ∃ms,ky [.val (tb p w rows),.val (li hs)] μ = .ok (.val (.tup [.str "open",li ms])) μ∧Rw p (linesAt rows (rowsOf rows hs)).length ms∧∀j,j<w→p ∣ dot ms (col (linesAt rows (rowsOf rows hs)) j)-g (eu w 0) j:=F.M9 H hs (.val (li hs)) μ rfl
theorem Nr(H:Tbl p w rows){hs ms tv:List Int}(ho:lN p w rows (rowsOf rows hs) ms)(h1:∀l∈linesAt rows (rowsOf rows hs),p ∣ dot l tv)(h2:g tv 0=1):False:=by
 have hb:=H.pr.pos
 have hL:=jH H (is:=rowsOf rows hs) kD
 refine Hn (p:=p) (w:=w) (ws:=eu w 0) (by omega) (λl hl=>(hL l hl).1) (uZ _ _) (by rw[K.kF];exact ho.1) ho.2 h1 ?_
 rw[o_ w 0 tv H.w0,h2]
 exact⟨0,by omega⟩
theorem ne_self{t:T}(h:okT 100 t=true):fNe t t=some (.bl false):=by
 rw[AF h h,yT 100 t h];rfl
theorem Ke(a b c:List Int)(d:List (List Int)):okT 100 (.lst [li a,li b,li c,.lst (d.map li)])=true:=by
 have h:∀x:List Int,okT 99 (li x)=true:=λx=>by unfold li;rw[pI];exact v9 _ _
 rw[pI,kh,kh,kh,kh,yS,h,h,h,HN 97 d];rfl
theorem EM(ns:List Int)(H:Tbl p w rows)(G:Tbl p v qs)(hs:List Int){fs ms0:List Int}(hf:Rw p w fs)(hm0:Rw p (rowsOf rows hs).length ms0)(ho0:lN p w rows (rowsOf rows hs) ms0){c:Int}(hc:0≤c∧c<1000000000){cs:List (List Int)}(l1:cs.length=(rowsOf rows hs).length)(l2:∀q∈cs,Rw p (v-1) q)(x12:Option SV)(μ:ag) :
  ∃M,kA [some (.val (.lst (ns.map T.int))),some (.val (tb p w rows)),some (.val (li hs)),some (.val (tb p v qs)),some (.val (li fs)),some (.val (.int p)),some (.val (li (nums (rowsOf rows hs)))),some (.val (.tup [.str "open",li ms0])),some (.val (.int c)),some (.val (li (parts p rows fs))),some (.val (li ((rowsOf rows hs).map λi=>g (parts p rows fs) i))),some (.cel μ.length),x12,none,none,none,none,none,none,none,none] (μ++[(true,.lst (cs.map li))]) = .rt (.val (.bl true)) (μ++[M]):=by
 have hb:=H.pr.pos
 have hp0:0<p:=Int.lt_of_lt_of_le (by decide) hb.1
 have hp1:1<p:=Int.lt_of_lt_of_le (by decide) hb.1
 have hn:=H.n
 have hw0:=H.w0
 have hv0:=G.w0
 have hv:=G.w1
 have hqn:=G.n
 have hlt:∀i∈rowsOf rows hs,i<rows.length:=kD
 have h24:(rowsOf rows hs).length≤24:=Nat.le_trans (jI rows hs) hn
 have hcl:∀q∈cs,q.length+1=v:=λq hq=>by rw[(l2 q hq).1];omega
 generalize hM:μ++[(true,T.lst (cs.map li))]=M
 have hk:M[μ.length]?=some (true,.lst (cs.map li)):=by rw[← hM];exact fE
 have e9:=pd H hlt h24 hm0 ho0 M
 obtain⟨ms,e10,hm,ho⟩:=Ka H hlt h24 hm0 ho0 (c:=c / 16) (by omega) M
 have hmr:Rw p ms.length ms:=⟨rfl,hm.2,hm.3⟩
 have hmb:∀m∈ms,0≤m∧m<p:=λm h=>⟨hm.2 m h,hm.3 m h⟩
 have hml:ms.length≤1000:=by rw[hm.1];omega
 generalize hss:(rowsOf rows hs).map (λi=>g (parts p rows fs) i)=ss
 have hh:handed p v ms ss cs=g fs 0::behind p v ms cs:=by rw[← hss];exact EL H hlt hf hm ho l1 hcl hv0
 have e12:=EG (ss:=ss) H G hs hmr hml ho hcl M
 rw[hh] at e12
 have e13:=Np (ss:=ss) G hmb hml hcl (tb p w rows) μ.length M hk
 rw[hh] at e13
 have a3:atI [li hs,li ms,li ss,T.lst (cs.map li)] 3=some (.lst (cs.map li)):=rfl
 have e15:∀M',b6 [.val (tb p v qs),.val (li (g fs 0::behind p v ms cs))] M' = .ok (.val (li (parts p qs (g fs 0::behind p v ms cs)))) M':=λM'=>K.u_ G _ (.val (li _)) M' rfl
 have ec:∀S:ag→Prop,S M→cy S (aN 0) (dC (.bl true)) (dUn lJ (ae 0)) [none] (cs.map li) M = .ok (cs.map li) M:=λS hS=>by
  rw[bE li li hS]
  intro q _
  refine⟨_,rfl,?_⟩
  unfold li
  simp?! only[qo]
 have lc:(cs.map li).length≤szL:=by rw[List.length_map,l1];unfold szL;omega
 have lb:(behind p v ms cs).length≤1000:=by unfold behind;rw[List.length_map,List.length_range];omega
 have fa:bD (.lst [.int (g fs 0)]) (li (behind p v ms cs))=some (li (g fs 0::behind p v ms cs)):=by
  unfold li
  rw[jo _ _ (by simp[szL];omega)];rfl
 have f0:atI (fs.map T.int) 0=some (.int (g fs 0)):=by rw[atg (by omega) (by rw[hf.1];omega)];rfl
 have hM2:frz (.cel μ.length) M = .ok (.lst (cs.map li)) (μ++[(false,.lst (cs.map li))]):=by rw[← hM];exact Cc μ [] true _
 have wh:∀(S:ag→Prop) (M':ag),S M'→cy S (aN 0) (dC (.bl true)) (aB (cal eW) [(ae 0),(ae 1)]) [none,some (.val (.int p))] ((parts p qs (g fs 0::behind p v ms cs)).map T.int) M' = .ok ((parts p qs (g fs 0::behind p v ms cs)).map λ_=>T.bl true) M':=λS M' hS=>K.Bz (K.Af hp0 qs (g fs 0::behind p v ms cs)) S M' hS
 have lp:(parts p qs (g fs 0::behind p v ms cs)).length≤szL:=by rw[K.kG];unfold szL;omega
 refine⟨(false,.lst (cs.map li)),?_⟩
 rw[p3]
 unfold nL
 simp?! only[Nq]
 rw[xY]
 unfold qT
 simp?! only[e9,Bool.not_true]
 rw[vm]
 unfold oG
 simp?! only[e10]
 rw[vn]
 unfold oH
 have s11:(aE 15 (eY [(dUn lJ (ae 2)),(dUn lJ (ae 14)),(dUn lJ (ae 10)),(br (h7 (ae 11)) [none] (aN 0) (dC (.bl true)) (dUn lJ (ae 0)))])) [some (.val (.lst (ns.map T.int))),some (.val (tb p w rows)),some (.val (li hs)),some (.val (tb p v qs)),some (.val (li fs)),some (.val (.int p)),some (.val (li (nums (rowsOf rows hs)))),some (.val (.tup [.str "open",li ms0])),some (.val (.int c)),some (.val (li (parts p rows fs))),some (.val (li ss)),some (.cel μ.length),x12,none,some (.val (li ms)),none,none,none,none,none,none] M =
   .nx [some (.val (.lst (ns.map T.int))),some (.val (tb p w rows)),some (.val (li hs)),some (.val (tb p v qs)),some (.val (li fs)),some (.val (.int p)),some (.val (li (nums (rowsOf rows hs)))),some (.val (.tup [.str "open",li ms0])),some (.val (.int c)),some (.val (li (parts p rows fs))),some (.val (li ss)),some (.cel μ.length),x12,none,some (.val (li ms)),some (.val (.lst [li hs,li ms,li ss,.lst (cs.map li)])),none,none,none,none,none] M:=by
  simp?! only[qo,hk]
  rw[ec _ (by simp[hk])]
  simp?! only[lc]
 rw[s11,RS.cD,vo]
 unfold oI
 simp?! only[a3,e12]
 rw[vp]
 unfold oJ
 simp?! only[GQ,e13,Bb]
 rw[vq]
 unfold oK
 have n4:=ne_self (Ke hs ms ss cs)
 have n1:∀x:List Int,fNe (li x) (li x)=some (.bl false):=λx=>by
  unfold li
  rw[tG,beq_self_eq_true];rfl
 have isl:∀(M':ag) (x:List Int),isS .list M' (.val (li x))=some (.bl true):=λ_ _=>rfl
 simp?! only[n1,hM2,n4,tI,isl,Bool.not_true]
 generalize hN:μ++[(false,T.lst (cs.map li))]=N
 rw[vt]
 unfold oM
 simp?! only[f0,fa,e15,n1]
 rw[wh _ _ (by simp)]
 simp?! only[List.length_map,lp,K.all_true,Bool.not_true]
 rw[vv]
 obtain⟨bs,e16,hbs,hbl⟩:=EJ hp1 hm (by omega) (c / 32%3) (c / 96) N
 unfold oN
 simp?! only[e16]
 rw[vw]
 obtain⟨b,e17,hbo⟩:=Ag H hlt h24 hbs hbl N
 have s17:lF [some (.val (.lst (ns.map T.int))),some (.val (tb p w rows)),some (.val (li hs)),some (.val (tb p v qs)),some (.val (li fs)),some (.val (.int p)),some (.val (li (nums (rowsOf rows hs)))),some (.val (.tup [.str "open",li ms0])),some (.val (.int c)),some (.val (li (parts p rows fs))),some (.val (li ss)),some (.cel μ.length),x12,none,some (.val (li ms)),some (.val (.lst [li hs,li ms,li ss,.lst (cs.map li)])),some (.val (li (parts p qs (g fs 0::behind p v ms cs)))),some (.val (li (parts p qs (g fs 0::behind p v ms cs)))),some (.val (li (behind p v ms cs))),some (.val (li bs)),none] N =
   .nx [some (.val (.lst (ns.map T.int))),some (.val (tb p w rows)),some (.val (li hs)),some (.val (tb p v qs)),some (.val (li fs)),some (.val (.int p)),some (.val (li (nums (rowsOf rows hs)))),some (.val (.tup [.str "open",li ms0])),some (.val (.int c)),some (.val (li (parts p rows fs))),some (.val (li ss)),some (.cel μ.length),x12,none,some (.val (li ms)),some (.val (.lst [li hs,li ms,li ss,.lst (cs.map li)])),some (.val (li (parts p qs (g fs 0::behind p v ms cs)))),some (.val (li (parts p qs (g fs 0::behind p v ms cs)))),some (.val (li (behind p v ms cs))),some (.val (li bs)),none] N:=by
  unfold lF
  cases b with
  | true=>simp?! only[e17,Bool.not_true]
  | false =>
   have r:=ph (rQ (v:=v) (qs:=qs) H hs hbs hbl (hbo rfl) (li ss) (.cel μ.length) N) (c / 8%2==0)
   simp?! only[e17,Bool.not_false,r,Bool.not_true]
 rw[s17,RS.cD,vx]
 have i1:j5 N (.val (tb p v qs)) (.int 1)=some (.val (.int v)):=rfl
 have h3:∃a:Int,a≠p∧(3-if (p==3)=true then (1:Int) else 0)=a:=⟨_,by by_cases h:p=3<;>simp[h]<;>omega,rfl⟩
 obtain⟨a,ha,h3⟩:=h3
 unfold oO
 simp?! only[i1,h3]
 rw[vy]
 have r:=ph (EH H (li hs) (li ms) (li ss) (.int v) (.tup []) (.cel μ.length) ha N) (c / 8%2==1)
 unfold oP
 simp?! only[r]
theorem Kf(ns:List Int)(H:Tbl p w rows)(G:Tbl p v qs)(hs:List Int){fs:List Int}(hf:Rw p w fs)(μ:ag) :
  gN [.val (.lst (ns.map T.int)),.val (tb p w rows),.val (li hs),.val (tb p v qs),.val (li fs)] μ = .ok (.val (.bl true)) μ:=by
 have hb:=H.pr.pos
 have hp0:0<p:=Int.lt_of_lt_of_le (by decide) hb.1
 have h24:(rowsOf rows hs).length≤24:=Nat.le_trans (jI rows hs) H.n
 unfold gN
 rw[b9,D9]
 rcases HU H hs μ with ⟨tv,h1,h2,h3,h4⟩|⟨ms,h1,h2,h3⟩
 ·obtain⟨c,cs,x12,hc,l1,l2,e⟩:=Aj ns H G hs hf _ μ h1
  rw[e,p3]
  generalize hM:μ++[(true,T.lst (cs.map li))]=M
  obtain⟨r,hr,hR⟩:=h_ c p (rowsOf rows hs).length true hp0 (by omega) (by omega) M
  have hRr:Rw p r.length r:=⟨rfl,hR.2,hR.3⟩
  have rf:=ph (rQ (v:=v) (qs:=qs) H hs hRr (by rw[hR.1];omega) (λo=>Nr H o h3 h4) (li ((rowsOf rows hs).map λi=>g (parts p rows fs) i)) (.cel μ.length) M) (c / 8%2==0)
  have ln:(nums (rowsOf rows hs)).length=(rowsOf rows hs).length:=by unfold nums;rw[List.length_map]
  unfold nL
  simp?! only[K.Ng,List.length_map,ln,hr,rf]
  rw[← hM,List.take_left]
 ·obtain⟨c,cs,x12,hc,l1,l2,e⟩:=Aj ns H G hs hf _ μ h1
  rw[K.kF] at h2
  obtain⟨M,e2⟩:=EM ns H G hs hf h2 ⟨h2.1,h3⟩ hc l1 l2 x12 μ
  rw[e,e2]
  simp?! only[]
  rw[List.take_left]
end
theorem holds(ns:List Int)(hl:ns.length≤63):∃μ',o7 [.val (.lst (ns.map T.int))] [] = .ok (.val (.bl true)) μ':=by
 obtain⟨c0,hc0⟩:=iu ns 0 (by decide) (by decide)
 obtain⟨c1,hc1⟩:=iu ns 1 (by decide) (by decide)
 obtain⟨c2,hc2⟩:=iu ns 2 (by decide) (by decide)
 obtain⟨c3,hc3⟩:=iu ns 3 (by decide) (by decide)
 obtain⟨p,hP,hp⟩:=Nd c0
 have hb:=hP.pos
 obtain⟨w,rows,e1,H,hw,_,_⟩:=qf ns hP 10 (by decide) []
 obtain⟨v,qs,e2,G,hv,_,_⟩:=qf ns hP 25 (by decide) []
 obtain⟨fs,e3,hF⟩:=h_ c1 p w true (by omega) (by omega) (by omega) []
 obtain⟨hs,_,_,e4⟩:=u9 c2
 have i1:j5 [] (.val (tb p w rows)) (.int 1)=some (.val (.int w)):=rfl
 refine⟨[],?_⟩
 unfold o7
 rw[b9,MH,D_]
 unfold Bc
 simp?! only[hc0,hp]
 rw[Ea]
 unfold Bd
 simp?! only[e1]
 rw[Eb]
 unfold Be
 simp?! only[e2]
 rw[Ed]
 unfold Bf
 simp?! only[hc1,i1,e3]
 rw[Ee]
 unfold Bg
 simp?! only[hc2,e4]
 rw[Ef]
 have s5:∃ks:List Int,xZ [some (.val (.lst (ns.map T.int))),some (.val (.int p)),some (.val (tb p w rows)),some (.val (tb p v qs)),some (.val (li fs)),some (.val (li hs))] [] = .nx [some (.val (.lst (ns.map T.int))),some (.val (.int p)),some (.val (tb p w rows)),some (.val (tb p v qs)),some (.val (li fs)),some (.val (li ks))] []:=by
  unfold xZ
  by_cases h:c3%4 > 0
  ·refine⟨[0,1,2,3,4],?_⟩
   have hd:decide (c3%4 > 0)=true:=decide_eq_true h
   simp?! only[hc3,hd]
   rfl
  ·refine⟨hs,?_⟩
   have hd:decide (c3%4 > 0)=false:=decide_eq_false h
   simp?! only[hc3,hd]
 obtain⟨ks,s5⟩:=s5
 rw[s5,RS.cD,Eg]
 have e6:=Kf ns H G ks hF []
 unfold Bh
 simp?! only[e6]
end Fw.k73
open PySem PySem.W PyProof.Rows
namespace PySem.W.Fast
theorem tw6033397252888361025 : True := trivial
theorem te8949504229230405945 : True := trivial
theorem tw15094783087296728052 : True := trivial
theorem tw10515355075725789525 : True := trivial
theorem tw16307859293491524248 : True := trivial
theorem tw1764611236658544136 : True := trivial
theorem tw1026467674650423120 : True := trivial
theorem tw3033513515232723454 : True := trivial
theorem tw8007044276035736831 : True := trivial
theorem tw14863903609580499929 : True := trivial
theorem tw16690889357662781117 : True := trivial
theorem tw12250314234845623686 : True := trivial
theorem tw902610789057528491 : True := trivial
theorem tw14815400715391398661 : True := trivial
theorem tw12390549026488015334 : True := trivial
theorem tw7645394274011222373 : True := trivial
theorem tw13344164044097723747 : True := trivial
theorem tw18374848361890823773 : True := trivial
theorem tw428596230230739549 : True := trivial
theorem tw3360499208398763385 : True := trivial
theorem tw9522880748536720286 : True := trivial
theorem tw4330460713554291529 : True := trivial
theorem tw17305731674104134754 : True := trivial
theorem tw11066989113585976278 : True := trivial
theorem tw10334814588519771763 : True := trivial
theorem tw2252741141660059903 : True := trivial
theorem tw7812926383549423846 : True := trivial
theorem tw8678486809571458013 : True := trivial
theorem tw16283694948520081576 : True := trivial
theorem tw16529113648764997283 : True := trivial
theorem tw6338992508294766684 : True := trivial
theorem tw7215755683996526924 : True := trivial
theorem tw1690898338369236032 : True := trivial
theorem tw963983097707925524 : True := trivial
theorem tw17714899223621025438 : True := trivial
theorem tw9221528677684542014 : True := trivial
theorem tw18385843903480865041 : True := trivial
theorem tw6057139105347665414 : True := trivial
theorem tw12277902474708623908 : True := trivial
theorem tw11455316646806186031 : True := trivial
theorem tw2519321490473715296 : True := trivial
theorem tw2171894378153947375 : True := trivial
theorem tw9548346665032097905 : True := trivial
theorem tw11774504888415445525 : True := trivial
theorem tw4675088141652470858 : True := trivial
end PySem.W.Fast
set_option maxRecDepth 100000 in
set_option maxHeartbeats 0 in
theorem PySem.Challenge.cw_fewopen_k73_parts_handed_on_holds : PySem.Challenge.rw_fewopen_k73_parts_handed_on.Holds := by
 w_on;o_law;k_head;(case hw=>w_witness2)
 k_fill
 refine Fw.k73.walk (l:=PySem.Challenge.rw_fewopen_k73_parts_handed_on) rfl rfl Fw.k73.holds (λw h Y=>PySem.W.kIn_of Y) ?F
 case F =>
  intro w mg fa h KX G hmg
  refine' Fw.k73.all_mk KX G hmg ?a0 ?l0 ?c0 ?k0 ?a1 ?l1 ?c1 ?k1 ?a2 ?l2 ?c2 ?k2 ?a3 ?l3 ?c3 ?k3 ?a4 ?l4 ?c4 ?k4 ?a5 ?l5 ?c5 ?k5 ?a6 ?l6 ?c6 ?k6 ?a7 ?l7 ?c7 ?k7 ?a8 ?l8 ?c8 ?k8 ?a9 ?l9 ?c9 ?k9 ?a10 ?l10 ?c10 ?k10 ?a11 ?l11 ?c11 ?k11 ?a12 ?l12 ?c12 ?k12 ?a13 ?l13 ?c13 ?k13 ?a14 ?l14 ?c14 ?k14 ?a15 ?l15 ?c15 ?k15 ?a16 ?l16 ?c16 ?k16 ?a17 ?l17 ?c17 ?k17 ?a18 ?l18 ?c18 ?k18 ?a19 ?l19 ?c19 ?k19 ?a20 ?l20 ?c20 ?k20 ?a21 ?l21 ?c21 ?k21 ?a22 ?l22 ?c22 ?k22 ?a23 ?l23 ?c23 ?k23 ?a24 ?l24 ?c24 ?k24 ?a25 ?l25 ?c25 ?k25 ?a26 ?l26 ?c26 ?k26 ?a27 ?l27 ?c27 ?k27 ?a28 ?l28 ?c28 ?k28 ?a29 ?l29 ?c29 ?k29 ?a30 ?l30 ?c30 ?k30 ?a31 ?l31 ?c31 ?k31 ?a32 ?l32 ?c32 ?k32 ?a33 ?l33 ?c33 ?k33 ?a34 ?l34 ?c34 ?k34 ?a35 ?l35 ?c35 ?k35 ?a36 ?l36 ?c36 ?k36 ?a37 ?l37 ?c37 ?k37 ?z0 ?z1 ?z2 ?z3 ?z4 ?z5 ?z6 ?z7 ?z8 ?z9 ?z10 ?z11 ?x0 ?x1 ?x2 ?x3 ?x4 ?x5 ?x6 ?x7 ?x8 ?x9 ?x10 ?x11 ?x12 ?x13 ?x14 ?x15 ?x16 ?x17 ?x18 ?x19
  (case a0=>k_is)
  (case l0=>k_is)
  (case c0=>k_is)
  (case k0=>k_is)
  (case a1=>k_is)
  (case l1=>k_is)
  (case c1=>k_is)
  (case k1=>k_is)
  (case a2=>k_is)
  (case l2=>k_is)
  (case c2=>k_is)
  (case k2=>k_is)
  (case a3=>k_is)
  (case l3=>k_is)
  (case c3=>k_is)
  (case k3=>k_is)
  (case a4=>k_is)
  (case l4=>k_is)
  (case c4=>k_is)
  (case k4=>k_is)
  (case a5=>k_is)
  (case l5=>k_is)
  (case c5=>k_is)
  (case k5=>k_is)
  (case a6=>k_is)
  (case l6=>k_is)
  (case c6=>k_is)
  (case k6=>k_is)
  (case a7=>k_is)
  (case l7=>k_is)
  (case c7=>k_is)
  (case k7=>k_is)
  (case a8=>k_is)
  (case l8=>k_is)
  (case c8=>k_is)
  (case k8=>k_is)
  (case a9=>k_is)
  (case l9=>k_is)
  (case c9=>k_is)
  (case k9=>k_is)
  (case a10=>k_is)
  (case l10=>k_is)
  (case c10=>k_is)
  (case k10=>k_is)
  (case a11=>k_is)
  (case l11=>k_is)
  (case c11=>k_is)
  (case k11=>k_is)
  (case a12=>k_is)
  (case l12=>k_is)
  (case c12=>k_is)
  (case k12=>k_is)
  (case a13=>k_is)
  (case l13=>k_is)
  (case c13=>k_is)
  (case k13=>k_is)
  (case a14=>k_is)
  (case l14=>k_is)
  (case c14=>k_is)
  (case k14=>k_is)
  (case a15=>k_is)
  (case l15=>k_is)
  (case c15=>k_is)
  (case k15=>k_is)
  (case a16=>k_is)
  (case l16=>k_is)
  (case c16=>k_is)
  (case k16=>k_is)
  (case a17=>k_is)
  (case l17=>k_is)
  (case c17=>k_is)
  (case k17=>k_is)
  (case a18=>k_is)
  (case l18=>k_is)
  (case c18=>k_is)
  (case k18=>k_is)
  (case a19=>k_is)
  (case l19=>k_is)
  (case c19=>k_is)
  (case k19=>k_is)
  (case a20=>k_is)
  (case l20=>k_is)
  (case c20=>k_is)
  (case k20=>k_is)
  (case a21=>k_is)
  (case l21=>k_is)
  (case c21=>k_is)
  (case k21=>k_is)
  (case a22=>k_is)
  (case l22=>k_is)
  (case c22=>k_is)
  (case k22=>k_is)
  (case a23=>k_is)
  (case l23=>k_is)
  (case c23=>k_is)
  (case k23=>k_is)
  (case a24=>k_is)
  (case l24=>k_is)
  (case c24=>k_is)
  (case k24=>k_is)
  (case a25=>k_is)
  (case l25=>k_is)
  (case c25=>k_is)
  (case k25=>k_is)
  (case a26=>k_is)
  (case l26=>k_is)
  (case c26=>k_is)
  (case k26=>k_is)
  (case a27=>k_is)
  (case l27=>k_is)
  (case c27=>k_is)
  (case k27=>k_is)
  (case a28=>k_is)
  (case l28=>k_is)
  (case c28=>k_is)
  (case k28=>k_is)
  (case a29=>k_is)
  (case l29=>k_is)
  (case c29=>k_is)
  (case k29=>k_is)
  (case a30=>k_is)
  (case l30=>k_is)
  (case c30=>k_is)
  (case k30=>k_is)
  (case a31=>k_is)
  (case l31=>k_is)
  (case c31=>k_is)
  (case k31=>k_is)
  (case a32=>k_is)
  (case l32=>k_is)
  (case c32=>k_is)
  (case k32=>k_is)
  (case a33=>k_is)
  (case l33=>k_is)
  (case c33=>k_is)
  (case k33=>k_is)
  (case a34=>k_is)
  (case l34=>k_is)
  (case c34=>k_is)
  (case k34=>k_is)
  (case a35=>k_is)
  (case l35=>k_is)
  (case c35=>k_is)
  (case k35=>k_is)
  (case a36=>k_is)
  (case l36=>k_is)
  (case c36=>k_is)
  (case k36=>k_is)
  (case a37=>k_is)
  (case l37=>k_is)
  (case c37=>k_is)
  (case k37=>k_is)
  (case z0=>k_is)
  (case z1=>k_is)
  (case z2=>k_is)
  (case z3=>k_is)
  (case z4=>k_is)
  (case z5=>k_is)
  (case z6=>k_is)
  (case z7=>k_is)
  (case z8=>k_is)
  (case z9=>k_is)
  (case z10=>k_is)
  (case z11=>k_is)
  (case x0=>k_is)
  (case x1=>k_is)
  (case x2=>k_is)
  (case x3=>k_exc)
  (case x4=>k_is)
  (case x5=>k_is)
  (case x6=>k_is)
  (case x7=>k_is)
  (case x8=>k_is)
  (case x9=>k_is)
  (case x10=>k_exc)
  (case x11=>k_is)
  (case x12=>k_is)
  (case x13=>k_is)
  (case x14=>k_is)
  (case x15=>k_is)
  (case x16=>kit_is)
  (case x17=>kit_is)
  (case x18=>k_is)
  (case x19=>kit_is)
