import PyProof.Rows.All
import Wide.All
import OpenK.AllK
import Wide.FinOn
import Lean
import PyProof.EqAt
import PyProof.EqKinds
import PyProof.TupleCall
import PyProof.NeData
import PyProof.P3Eq
import PyProof.ConsumeWalk
import PyProof.ZipIter
import PyProof.DictItemsLoops
import KE.KDictList
import KE.KPairComp
import PyProof.Draws
import PyProof.EnumMake
import PyProof.EnumFor
import PyProof.ListRange
import PyProof.ListMulAny
import KE.KRevIter
import PyProof.Rows.SortShell
import PyProof.ListNew
import KE.KDictIter
import PyProof.DictWalks
import PyProof.StrCalls2
import KE.KSortAsk
import KE.KEqDict
import PyProof.StrCalls3
import PyProof.FString
import PyProof.Rows.FStr
import PyProof.CallType
import PyProof.EnumStmt
import PyProof.Rows.CallKwBuiltin
import PyProof.Rows.StrNews2
import PyProof.StrOps2
import PyProof.StrLaws
import PyProof.StrLawsIn
import PyProof.StrLawsTight
import PyProof.StrLawsFrom
import PyProof.StrLawsLast
import PySem.Challenge.RW_fewopen_k12_texts_that_are_no_rules
set_option compiler.extract_closed false
set_option bootstrap.genMatcherCode false
set_option genSizeOf false
set_option Elab.async false
set_option linter.all false
set_option maxRecDepth 100000
noncomputable section
namespace L2
open PySem PySem.Spec PyProof.Rows
abbrev Key:=Sum Int Str
def Hx:Key->Value->Bool
 | .inl k,v=>Value.isInt k v
 | .inr x,v=>Value.isStrOf x v
def MM(w:World):Key->Int
 | .inl k=>hashInt k
 | .inr x=>hashStr w x
theorem bJ:∀{k:Key}{v:Value},Hx k v=true->(∃i t,k=Sum.inl i/\v=Value.int i t)∨(∃x t,k=Sum.inr x/\v=Value.str x t)
 | .inl i,v,h=>by
  obtain⟨t,e⟩:=Value.isInt_shape (k:=i) (v:=v) h
  exact .inl ⟨i,t,rfl,e⟩
 | .inr x,v,h=>by
  obtain⟨t,e⟩:=Value.isStrOf_shape (x:=x) (v:=v) h
  exact .inr ⟨x,t,rfl,e⟩
theorem Ig(a b:Int):decide ((Sum.inl a:Key)=Sum.inl b)=(a==b):=by
 by_cases e:a=b
 ·subst e;simp
 ·have h:¬ (Sum.inl a:Key)=Sum.inl b:=λq=>e (Sum.inl.inj q)
  rw[decide_eq_false h]
  exact(beq_eq_false_iff_ne.mpr e).symm
theorem Ih(a b:Str):decide ((Sum.inr a:Key)=Sum.inr b)=decide (a=b):=by
 by_cases e:a=b
 ·subst e;simp
 ·have h:¬ (Sum.inr a:Key)=Sum.inr b:=λq=>e (Sum.inr.inj q)
  rw[decide_eq_false h,decide_eq_false e]
theorem Ii(a:Int)(b:Str):decide ((Sum.inl a:Key)=Sum.inr b)=false:=decide_eq_false (λq=>nomatch q)
theorem Ij(a:Str)(b:Int):decide ((Sum.inr a:Key)=Sum.inl b)=false:=decide_eq_false (λq=>nomatch q)
def qb(prog:Program)(w:World):PySem.KeyKind prog w Key where
 is:=Hx
 hash:=MM w
 inj:=λv a b ha hb=>by
  rcases bJ ha with ⟨i,t,rfl,rfl⟩|⟨x,t,rfl,rfl⟩
  ·rcases bJ hb with ⟨j,u,rfl,e⟩|⟨y,u,rfl,e⟩
   ·injection e with e1 _;rw[e1]
   ·exact nomatch e
  ·rcases bJ hb with ⟨j,u,rfl,e⟩|⟨y,u,rfl,e⟩
   ·exact nomatch e
   ·injection e with e1 _;rw[e1]
 byValue:=λk v h=>by
  rcases bJ h with ⟨i,t,rfl,rfl⟩|⟨x,t,rfl,rfl⟩<;>rfl
 pyHash:=λhv h=>by
  rcases bJ hv with ⟨i,t,rfl,rfl⟩|⟨x,t,rfl,rfl⟩
  ·exact wpAny_pyHash_int h
  ·exact wpAny_pyHash_str h
 eqBool:=λhu hv h=>by
  rcases bJ hu with ⟨i,t,rfl,rfl⟩|⟨x,t,rfl,rfl⟩
  ·rcases bJ hv with ⟨j,u,rfl,rfl⟩|⟨y,u,rfl,rfl⟩
   ·rw[Ig] at h;exact wpAny_eqBool_int h
   ·rw[Ii] at h;exact SeqAt.EqAt.int_str i t y u _ _ _ _ h
  ·rcases bJ hv with ⟨j,u,rfl,rfl⟩|⟨y,u,rfl,rfl⟩
   ·rw[Ij] at h;exact SeqAt.EqAt.str_int x t j u _ _ _ _ h
   ·rw[Ih] at h;exact wpAny_eqBool_str h
 «strs»:=λk x t v h=>by
  rcases bJ h with ⟨i,u,rfl,e⟩|⟨y,u,rfl,e⟩
  ·exact nomatch e
  ·injection e with e1 _
   subst e1
   cases v<;>rfl
inductive V where
 | non|bl (b:Bool)|int (i:Int)|str (x:Str)|byt (b:Array UInt8)|flt (b:UInt64)|ref (a:Addr)|ty (n:String)
 deriving DecidableEq
def RelV:V->Value->Prop
 | .non,u=>u=Value.none
 | .bl b,u=>u=Value.bool b
 | .int i,u=>∃t,u=Value.int i t
 | .str x,u=>∃t,u=Value.str x t
 | .byt b,u=>∃t,u=Value.bytes b t
 | .flt b,u=>∃t,u=Value.float b t
 | .ref a,u=>u=Value.ref a
 | .ty n,u=>u=Value.type n
abbrev Vals:List V->List Value->Prop:=Paired RelV
theorem Vals.length{xs:List V}{us:List Value}(r:Vals xs us):xs.length=us.length:=Paired.length r
theorem Vals.get:∀{xs:List V}{us:List Value}{i:Nat}{x:V},Vals xs us->xs[i]?=some x->∃u,us[i]?=some u/\RelV x u
 | _,_,_,_,.nil,e=>by simp at e
 | _,_,0,_,.cons r _,e=>by simp at e;subst e;exact⟨_,rfl,r⟩
 | _,_,i+1,x,.cons _ t,e=>by
  obtain⟨u,h1,h2⟩:=Vals.get (i:=i) (x:=x) t (by simpa using e)
  exact⟨u,by simpa using h1,h2⟩
theorem Vals.set{x:V}{u:Value}(r:RelV x u):∀{xs:List V}{us:List Value} (i:Nat),Vals xs us->Vals (xs.set i x) (us.set i u)
 | _,_,_,.nil=>.nil
 | _,_,0,.cons _ t=>.cons r t
 | _,_,i+1,.cons q t=>.cons q (Vals.set r i t)
theorem Vals.append:∀{xs ys:List V}{us ws:List Value},Vals xs us->Vals ys ws->Vals (xs++ys) (us++ws)
 | _,_,_,_,.nil,s=>s
 | _,_,_,_,.cons r t,s=>.cons r (Vals.append t s)
theorem Vals.drop:∀{xs:List V}{us:List Value} (n:Nat),Vals xs us->Vals (xs.drop n) (us.drop n)
 | _,_,0,r=>r
 | _,_,_+1,.nil=>.nil
 | _,_,n+1,.cons _ t=>Vals.drop n t
def xV:Option V->Option Value->Prop
 | some v,some u=>RelV v u
 | none,none=>True
 | _,_=>False
def KV{κ:Type}:List (κ×V)->List (κ×Value)->Prop:=Paired λ(p:κ×V) (q:κ×Value)=>p.1=q.1/\RelV p.2 q.2
noncomputable def kV : Key -> V
 | .inl i=>.int i
 | .inr x=>.str x
inductive HO where
 | lst (xs:List V)
 | tup (xs:List V)
 | dK (kvs:List (Key×V))|dT (kvs:List (List Key×V))
 | set (S:Int->Bool) (n:Nat)
 | ins (C dx:Addr) (fs:List (Str×V))
 | own (x:Addr)
 | xd (fs:List (Str×V))
 | met (f x:Addr)
 | rng (lo hi:Int)
 | frz (o:Obj) (u:HO)
 | tbl (ps:Array Value)
 | ext (φ:Heap->Prop)
abbrev Hp:=Addr->Option HO
noncomputable def upd (H : Hp) (a : Addr) (o : HO) : Hp := fun b => if b = a then some o else H b
theorem aH{H:Hp}{a:Addr}{o:HO}:upd H a o a=some o:=by unfold upd;rw[if_pos rfl]
theorem aI{H:Hp}{a b:Addr}{o:HO}(h:b≠a):upd H a o b=H b:=by unfold upd;rw[if_neg h]
theorem e_{H:Hp}{a b:Addr}{o:HO}(h:H a=some o)(h':H b=none):a≠b:=by
 intro e;subst e;rw[h] at h';cases h'
section
variable(P:Program)(w:World)
def cS(H:Hp)(h:Heap)(a:Addr):HO->Prop
 | .lst xs=>xs.length≤sizeLine/\∃(its:List Value) (n:Nat),Vals xs its/\h.get? a=some { cls:=.type "list",data:=.seq its.toArray n }
 | .tup xs=>xs.length≤sizeLine/\∃its:List Value,Vals xs its/\IsTup h a its.toArray
 | .dK kvs=>kvs.length≤sizeLine/\(a==sysModules)=false/\∃vs,KV kvs vs/\h.DictAt (qb P w) a vs vs.length
 | .dT kvs=>kvs.length≤sizeLine/\(a==sysModules)=false/\∃xs:List (List Key×Addr×Value),
   Paired (λ(p:List Key×V) (q:List Key×Addr×Value)=>p.1=q.1/\H q.2.1=some (.tup (p.1.map kV))/\RelV p.2 q.2.2) kvs xs /\
   ∃o es ep,h.get? a=some o/\o.ExactDict/\o.data=.dict es ep/\es.toList=xs.map (entryOfKey (tupleKind (qb P w)))/\(xs.map (·.1)).Nodup
 | .set S n=>h.SetOf (intKind P w) a S n
 | .ins C dx fs=>H dx=some (.own a)/\fs.length≤1000/\dx≠a/\h.get? a=some (PySem.W.instObj C dx) /\
   ∃mA,h.Ns1 dx mA/\(∀f,xV (fs.lookup f) (mA f))/\PySem.Within mA (fs.map (·.1))
 | .own _=>∃o,h.get? a=some o
 | .xd fs=>∃mA,h.Ns1 a mA/\∀f,xV (fs.lookup f) (mA f)
 | .rng lo hi=>∃t u v,h.get? a=some { cls:=.type "range",data:=.fields #[.int lo t,.int hi u,.int 1 v] }
 | .frz o u=>h.get? a=some o/\cS H h a u
 | .tbl ps=>h.get? a=some { cls:=.none,data:=.fields ps }
 | .met f x=>h.get? a=some (PySem.W.methodObj (.ref f) (.ref x))
 | .ext φ=>φ h/\(∃o,h.get? a=some o)/\∀h1 h2:Heap,φ h1->(∀o,h1.get? a=some o->h2.get? a=some o)->φ h2
def HOk(H:Hp)(h:Heap):Prop:=∀a o,H a=some o->cS P w H h a o
end
section
variable{P:Program}{w:World}{H H':Hp}{h h':Heap}{a:Addr}{o:HO}
theorem cS.lt(x:cS P w H h a o):a<h.objs.size:=by
 cases o with
 | lst xs=>obtain⟨_,_,_,_,e⟩:=x;exact Heap.lt_size e
 | tup xs=>obtain⟨_,_,_,p⟩:=x;exact p.lt
 | dK kvs=>obtain⟨_,_,_,_,o,_,e,_⟩:=x;exact Heap.lt_size e
 | dT kvs=>obtain⟨_,_,_,_,o,_,_,e,_⟩:=x;exact Heap.lt_size e
 | set S n=>obtain⟨o,_,_,_,e,_⟩:=x;exact Heap.lt_size e
 | ins C dx fs=>obtain⟨_,_,_,e,_⟩:=x;exact Heap.lt_size e
 | own y=>obtain⟨_,e⟩:=x;exact Heap.lt_size e
 | xd fs=>obtain⟨_,⟨_,_,_,e,_⟩,_⟩:=x;exact Heap.lt_size e
 | rng lo hi=>obtain⟨_,_,_,e⟩:=x;exact Heap.lt_size e
 | frz ob u=>obtain⟨e,_⟩:=x;exact Heap.lt_size e
 | tbl ps=>exact Heap.lt_size (show h.get? a=some _ from x)
 | met f y=>exact Heap.lt_size (show h.get? a=some _ from x)
 | ext φ=>obtain⟨_,⟨_,e⟩,_⟩:=x;exact Heap.lt_size e
theorem Paired.Ik{α β:Type}{F G:α->β->Prop}:∀{l₁:List α}{l₂:List β},Paired F l₁ l₂->(∀a b,F a b->G a b)->Paired G l₁ l₂
 | _,_,.nil,_=>.nil
 | _,_,.cons r t,f=>.cons (f _ _ r) (Paired.Ik t f)
theorem Paired.imp'{α β:Type}{F G:α->β->Prop}(f:∀a b,F a b->G a b){l₁:List α}{l₂:List β}(r:Paired F l₁ l₂):Paired G l₁ l₂:=Paired.Ik r f
theorem cS.kY(x:cS P w H h a o)(k:∀b u,(b=a∨H b=some (.own a))->h.get? b=some u->h'.get? b=some u)
  (ho:∀b,H b=some (.own a)->H' b=some (.own a)) (ht:∀b xs,H b=some (.tup xs)->H' b=some (.tup xs)):cS P w H' h' a o:=by
 induction o with
 | lst xs=>obtain⟨z,its,n,r,e⟩:=x;exact⟨z,its,n,r,k _ _ (.inl rfl) e⟩
 | tup xs=>obtain⟨z,its,r,ob,e,c⟩:=x;exact⟨z,its,r,ob,k _ _ (.inl rfl) e,c⟩
 | dK kvs=>obtain⟨z,y,vs,r,ob,es,e,c⟩:=x;exact⟨z,y,vs,r,ob,es,k _ _ (.inl rfl) e,c⟩
 | dT kvs =>
  obtain⟨z,y,xs,r,ob,es,ep,e,c⟩:=x
  exact⟨z,y,xs,Paired.Ik r λp q z=>⟨z.1,ht _ _ z.2.1,z.2.2⟩,ob,es,ep,k _ _ (.inl rfl) e,c⟩
 | set S n=>obtain⟨ob,es,ep,t,e,c⟩:=x;exact⟨ob,es,ep,t,k _ _ (.inl rfl) e,c⟩
 | ins C dx fs =>
  obtain⟨d,z,ne,e,mA,⟨od,es,ep,e2,c⟩,r⟩:=x
  exact⟨ho _ d,z,ne,k _ _ (.inl rfl) e,mA,⟨od,es,ep,k _ _ (.inr d) e2,c⟩,r⟩
 | own y=>obtain⟨ob,e⟩:=x;exact⟨ob,k _ _ (.inl rfl) e⟩
 | xd fs=>obtain⟨mA,⟨od,es,ep,e,c⟩,r⟩:=x;exact⟨mA,⟨od,es,ep,k _ _ (.inl rfl) e,c⟩,r⟩
 | rng lo hi=>obtain⟨t,u,v,e⟩:=x;exact⟨t,u,v,k _ _ (.inl rfl) e⟩
 | frz ob u ih=>obtain⟨e,q⟩:=x;exact⟨k _ _ (.inl rfl) e,ih q⟩
 | tbl ps =>
  have e:h.get? a=some { cls:=.none,data:=.fields ps }:=x
  show h'.get? a=some { cls:=.none,data:=.fields ps }
  exact k a _ (.inl rfl) e
 | met f y =>
  have e:h.get? a=some (PySem.W.methodObj (.ref f) (.ref y)):=x
  show h'.get? a=some (PySem.W.methodObj (.ref f) (.ref y))
  exact k a _ (.inl rfl) e
 | ext φ=>obtain⟨p,⟨o,e⟩,st⟩:=x;exact⟨st _ _ p λo q=>k _ _ (.inl rfl) q,⟨o,k _ _ (.inl rfl) e⟩,st⟩
theorem HOk.lt(x:HOk P w H h)(e:H a=some o):a<h.objs.size:=(x a o e).lt
theorem HOk.fresh(x:HOk P w H h)(e:h.objs.size≤a):H a=none:=by
 cases q:H a with
 | none=>rfl
 | some u=>exact absurd (Nat.lt_of_lt_of_le (x.lt q) e) (Nat.lt_irrefl _)
theorem HOk.kept(x:HOk P w H h)(k:∀b u,h.get? b=some u->h'.get? b=some u):HOk P w H h':=λa o e =>
 (x a o e).kY (λb u _ q=>k b u q) (λ_ q=>q) λ_ _ q=>q
theorem HOk.laid(x:HOk P w H h)(k:∀b u,h.get? b=some u->h'.get? b=some u)(hp:h.objs.size≤a)(new:cS P w (upd H a o) h' a o):HOk P w (upd H a o) h':=λb u e=>by
 have hn:=x.fresh hp
 by_cases hb:b=a
 ·subst hb;rw[aH] at e;cases e;exact new
 ·rw[aI hb] at e
  exact(x b u e).kY (λc v _ q=>k c v q) (λc q=>by rw[aI (e_ q hn)];exact q) λc xs q=>by rw[aI (e_ q hn)];exact q
end
def Rd(H:Hp)(a:Addr)(u:HO):Prop:=H a=some u∨∃o,H a=some (.frz o u)
theorem Rd.ok{P:Program}{w:World}{H:Hp}{h:Heap}{a:Addr}{u:HO}(r:Rd H a u)(x:HOk P w H h):cS P w H h a u:=by
 rcases r with r|⟨o,r⟩
 ·exact x a u r
 ·obtain⟨_,q⟩:=x a _ r
  exact q
def Mut:Option HO->Prop
 | some (.lst _)=>True
 | some (.dK _)=>True
 | some (.dT _)=>True
 | some (.set _ _)=>True
 | some (.ins _ _ _)=>True
 | some (.ext _)=>True
 | _=>False
section
variable{P:Program}{w:World}{H:Hp}{h h':Heap}{x e:Addr}{o':HO}
theorem HOk.write(ok:HOk P w H h)(mu:Mut (H x))(he:e=x∨H e=some (.own x))(k:∀b u,b≠e->h.get? b=some u->h'.get? b=some u)(heo:∃u,h'.get? e=some u)
  (new:cS P w (upd H x o') h' x o'):HOk P w (upd H x o') h':=λb u q=>by
 have KN:∀c y,H c=some (.own y)->c≠x:=λc y r z=>by subst z;rw[r] at mu;exact mu
 have MN:∀c xs,H c=some (.tup xs)->c≠x:=λc xs r z=>by subst z;rw[r] at mu;exact mu
 by_cases hb:b=x
 ·subst hb;rw[aH] at q;cases q;exact new
 ·rw[aI hb] at q
  by_cases hbe:b=e
  ·have q':H b=some (.own x):=by
    rcases he with z|z
    ·exact absurd (hbe.trans z) hb
    ·rw[hbe];exact z
   rw[q] at q';cases q'
   obtain⟨v,hv⟩:=heo
   exact⟨v,by rw[hbe];exact hv⟩
  ·refine(ok b u q).kY (λc v hc r=>k c v ?_ r) (λc r=>by rw[aI (KN c b r)];exact r) λc xs r=>by rw[aI (MN c xs r)];exact r
   rcases hc with rfl|hc
   ·exact hbe
   ·rintro rfl
    rcases he with z|z
    ·exact KN c b hc z
    ·rw[hc] at z;cases z;exact hb rfl
end
structure Un(fs ex:List Addr)(H H':Hp)(h h':Heap):Prop where
 keep:∀b o,h.get? b=some o->H b=none->b∉fs->b∉ex->h'.get? b=some o
 slot:∀b o,h.get? b=some o->H b=none->b∈fs->b∉ex->∃sl,h'.get? b=some { o with slots:=sl }
 free:∀b o,h.get? b=some o->H b=none->b∉ex->H' b=none
 there:∀b o,h.get? b=some o->b∉ex->∃o',h'.get? b=some o'
 il:∀b xs,H b=some (.tup xs)->H' b=some (.tup xs)
 bS:∀b o u,H b=some (.frz o u)->H' b=some (.frz o u)
 ip:∀b ps,H b=some (.tbl ps)->∃more,H' b=some (.tbl (ps++more))
section
variable{fs fs' ex ex':List Addr}{H H1 H2:Hp}{h h1 h2 h':Heap}{a x e:Addr}{o:HO}
theorem Un.any(u:Un fs ex H H1 h h1){b:Addr}{ob:Obj}(q:h.get? b=some ob)(n:H b=none)(hx:b∉ex):∃sl,h1.get? b=some { ob with slots:=sl }:=by
 by_cases hb:b∈fs
 ·exact u.slot b ob q n hb hx
 ·exact⟨ob.slots,u.keep b ob q n hb hx⟩
theorem Un.kept(k:∀b u,h.get? b=some u->h'.get? b=some u):Un fs ex H H h h' :=
 ⟨λb ob q _ _ _=>k b ob q,λb ob q _ _ _=>⟨ob.slots,k b ob q⟩,λ_ _ _ n _=>n,λb ob q _=>⟨ob,k b ob q⟩,λ_ _ q=>q,λ_ _ _ q=>q,λ_ ps q=>⟨#[],by rw[q];simp⟩⟩
theorem Un.refl:Un fs ex H H h h:=Un.kept λ_ _ q=>q
theorem Un.laid(k:∀b u,h.get? b=some u->h'.get? b=some u)(hp:h.objs.size≤a)(hn:H a=none):Un fs ex H (upd H a o) h h' where
 keep:=λb u q _ _ _=>k b u q
 slot:=λb u q _ _ _=>⟨u.slots,k b u q⟩
 free:=λb u q n _=>by rw[aI (Nat.ne_of_lt (Nat.lt_of_lt_of_le (Heap.lt_size q) hp))];exact n
 there:=λb u q _=>⟨u,k b u q⟩
 il:=λb xs q=>by rw[aI (e_ q hn)];exact q
 bS:=λb u xs q=>by rw[aI (e_ q hn)];exact q
 ip:=λb ps q=>⟨#[],by rw[aI (e_ q hn),q];simp⟩
theorem Un.write(mu:Mut (H x))(he:e=x∨H e=some (.own x))(k:∀b u,b≠e->h.get? b=some u->h'.get? b=some u)(heo:∃u,h'.get? e=some u):Un fs ex H (upd H x o) h h':=by
 have hx:∀b,H b=none->b≠x:=λb n z=>by subst z;rw[n] at mu;exact mu
 have hb:∀b,H b=none->b≠e:=λb n z=>by
  subst z
  rcases he with r|r
  ·exact hx b n r
  ·rw[n] at r;cases r
 have hm:∀b u,H b=some u->¬ Mut (some u)->b≠x:=λb u q nm z=>by subst z;rw[q] at mu;exact nm mu
 refine⟨λb u q n _ _=>k b u (hb b n) q,λb u q n _ _=>⟨u.slots,k b u (hb b n) q⟩,λb u q n _=>by rw[aI (hx b n)];exact n,λb u q _=>?_,
  λb xs q=>by rw[aI (hm b _ q λz=>z)];exact q,λb u xs q=>by rw[aI (hm b _ q λz=>z)];exact q,λb ps q=>⟨#[],by rw[aI (hm b _ q λz=>z),q];simp⟩⟩
 by_cases hbe:b=e
 ·subst hbe;exact heo
 ·exact⟨u,k b u hbe q⟩
end
def trk(h:Heap)(H:Hp):List Addr:=(List.range h.objs.size).filter λa=>(H a).isSome
def qc(h:Heap)(H:Hp):Heap:=PySem.W.hideAll h (trk h H)
theorem xW(h:Heap)(H:Hp):(qc h H).objs.size=h.objs.size:=PySem.W.hideAll_size _ _
theorem AJ{h:Heap}{H:Hp}{b:Addr}{o:Obj}(e:h.get? b=some o)(n:H b=none):(qc h H).get? b=some o :=
 PySem.W.hideAll_get _ e λhm=>by
  have q:(H b).isSome=true:=(List.mem_filter.mp hm).2
  rw[n] at q;simp at q
theorem EU{h:Heap}{H:Hp}{b:Addr}{o:Obj}(e:(qc h H).get? b=some o):h.get? b=some o/\H b=none:=by
 have e':h.get? b=some o:=PySem.W.of_hideAll (trk h H) e
 refine⟨e',?_⟩
 cases q:H b with
 | none=>rfl
 | some x =>
  have hm:b∈trk h H:=List.mem_filter.mpr ⟨List.mem_range.mpr (Heap.lt_size e'),by simp[q]⟩
  have z:(qc h H).get? b=none:=PySem.W.hideAll_none (trk h H) hm
  rw[z] at e;cases e
structure Mod(K:PySem.W.Frag)(mg:Str->Option Value)(base:Heap):Prop where
 kin:K.In base
 glob:base.Ns mainGlobals mg
 blt:∃mb,base.Ns builtinsNs mb/\∀x:Str,x≠"__name__"->mb x=bootBuiltins x
 nolimit:base.NoLimit
structure Cx where
 prog:Program
 w:World
 K:PySem.W.Frag
 mg:Str->Option Value
 base:Heap
 A:Around
 N:List Str
 s₀:Shared
 H₀:Hp
 env:Env
 outer:List Env
 stack:List Env
 ex:List Addr
 fn:Str->Bool
 calm:Bool
 pn:List (Addr×Obj)
 xe:Value->Shared->Prop
def frs(l:List Env):List Addr:=l.filterMap (·.frame)
abbrev Cx.fs(X:Cx):List Addr:=frs X.outer
def Vis(sc:Scope)(x:Str):Prop:=sc.names.lookup x=some .local∨sc.names.lookup x=some .cell∨sc.names.lookup x=some .free
def Loc(sc:Scope)(x:Str):Prop:=sc.names.lookup x=some .local∨sc.names.lookup x=some .cell
def Look(env:Env)(h:Heap)(m:Str->Option Value)(x:Str)(u:Value):Prop :=
 (env.kindOf x=some .local/\m x=some u)∨((env.kindOf x=some .cell∨env.kindOf x=some .free)/\∃c,env.cells.lookup x=some c/\h.IsCell c (some u))
structure Cx.Ok(X:Cx):Prop where
 mod:Mod X.K X.mg X.base
 kind:X.env.scope.kind=.function
 glob:X.env.globals=mainGlobals
 blt:X.env.builtins=builtinsNs
 above:X.s₀.heap.objs.size≤X.env.locals
 inj:∀x y c,X.env.cells.lookup x=some c->X.env.cells.lookup y=some c->x=y
 has:∀x,(X.env.kindOf x=some .cell∨X.env.kindOf x=some .free)->∃c,X.env.cells.lookup x=some c
 cab:∀x c,X.fn x=true->X.env.cells.lookup x=some c->X.s₀.heap.objs.size≤c
 hd:X.calm=true->X.A.handled=none
 frames:X.A.frames=some X.stack
 stk:X.stack=X.outer∨(X.stack=X.env::X.outer/\X.env.frame=some X.env.locals)
 exf:∀b∈X.ex,b≠X.env.locals/\∀x c,X.env.cells.lookup x=some c->c≠b
 bs:∀b o,X.base.get? b=some o->X.s₀.heap.get? b=some o/\X.H₀ b=none
 bsz:X.base.objs.size≤X.s₀.heap.objs.size
 oM:∀b o,X.base.get? b=some o->b∉X.ex
 r8:∀b∈X.ex,b∉X.fs
 jC:X.s₀.heap.FunFrames X.base X.outer
 frf:∀b∈X.fs,X.H₀ b=none
structure Inv(X:Cx)(pins:List (Addr×Obj))(σ:List (Option V))(H:Hp)(s:Shared):Prop where
 ok:X.Ok
 os:s.os=X.s₀.os
 bare:AllBare s.gens
 base:Un X.fs X.ex X.H₀ H X.s₀.heap s.heap
 loc:∃m,s.heap.Ns X.env.locals m/\∀(i:Nat) (x:Str) (v:V),X.N[i]?=some x->σ[i]?=some (some v)->Vis X.env.scope x->∃u,RelV v u/\Look X.env s.heap m x u
 cell:∀x c,X.env.cells.lookup x=some c->∃v,s.heap.IsCell c v
 free:H X.env.locals=none
 df:∀x c,X.env.cells.lookup x=some c->H c=none
 pin:∀p∈X.pn++pins,s.heap.get? p.1=some p.2/\H p.1=none/\p.1≠X.env.locals/\p.1∉X.fs/\∀v,p.2.data≠.cell v
 hok:HOk X.prog X.w H s.heap
 len:σ.length=X.N.length
section
variable{X:Cx}{pins:List (Addr×Obj)}{σ:List (Option V)}{H H':Hp}{s:Shared}{h':Heap}
theorem Cx.Ok.MO(ok:X.Ok){b:Addr}{o:Obj}(e:X.base.get? b=some o):b∉X.fs:=λhb=>by
 have:=(ok.jC.mem hb).1
 rw[e] at this;cases this
theorem Inv.bs(I:Inv X pins σ H s):∀b o,X.base.get? b=some o->s.heap.get? b=some o/\H b=none:=λb o e =>
 ⟨I.base.keep b o (I.ok.bs b o e).1 (I.ok.bs b o e).2 (I.ok.MO e) (I.ok.oM b o e),I.base.free b o (I.ok.bs b o e).1 (I.ok.bs b o e).2 (I.ok.oM b o e)⟩
theorem Inv.bk(I:Inv X pins σ H s):∀b o,X.base.get? b=some o->s.heap.get? b=some o:=λb o e=>(I.bs b o e).1
theorem Inv.mod(I:Inv X pins σ H s):Mod X.K X.mg X.base:=I.ok.mod
theorem Inv.kIn(I:Inv X pins σ H s):X.K.In s.heap:=I.ok.mod.kin.keeps I.bk
theorem Inv.nolimit(I:Inv X pins σ H s):s.heap.NoLimit:=I.ok.mod.nolimit.keeps I.bk
theorem Inv.fr(I:Inv X pins σ H s):∃m,Fr X.base X.env.locals s.heap m :=
 let ⟨m,hn,_⟩:=I.loc
 ⟨m,hn,I.bk,Nat.le_trans I.ok.bsz I.ok.above⟩
theorem Inv.lt(I:Inv X pins σ H s):X.env.locals<s.heap.objs.size:=let ⟨_,hn,_⟩:=I.loc;hn.lt
theorem Inv.sz(I:Inv X pins σ H s):X.s₀.heap.objs.size≤s.heap.objs.size:=Nat.le_trans I.ok.above (Nat.le_of_lt I.lt)
theorem Inv.MP(I:Inv X pins σ H s){a:Addr}(h:s.heap.objs.size≤a):a∉X.fs:=λhb=>by
 obtain⟨_,o,ho,_⟩:=I.ok.jC.mem hb
 exact absurd (Nat.lt_of_lt_of_le (Heap.lt_size ho) (Nat.le_trans I.sz h)) (Nat.lt_irrefl _)
theorem Inv.cne(I:Inv X pins σ H s):∀x c,X.env.cells.lookup x=some c->c≠X.env.locals:=λx c e z=>by
 obtain⟨v,o,ho,hd⟩:=I.cell x c e
 obtain⟨m,⟨o',es,ep,ho',hd',_⟩,_⟩:=I.loc
 rw[z,ho'] at ho;cases ho;rw[hd'] at hd;cases hd
theorem Inv.jC(I:Inv X pins σ H s):s.heap.FunFrames X.base X.outer:=by
 have all:∀(l:List Env),(∀b∈frs l,b∈X.fs)->X.s₀.heap.FunFrames X.base l->s.heap.FunFrames X.base l:=by
  intro l
  induction l with
  | nil=>intro _ _;trivial
  | cons env r ih =>
   intro hs hl
   obtain⟨hk,⟨L,o,hf,hn,ho,hd⟩,hr⟩:=hl
   have hL:L∈X.fs:=hs L (by unfold frs;rw[List.filterMap_cons,hf];exact List.mem_cons_self)
   obtain⟨sl,e⟩:=I.base.slot L o ho (I.ok.frf L hL) hL λz=>I.ok.r8 L z hL
   exact⟨hk,⟨L,_,hf,hn,e,hd⟩,ih (λb hb=>hs b (by unfold frs;rw[List.filterMap_cons,hf];exact List.mem_cons_of_mem _ hb)) hr⟩
 exact all X.outer (λ_ hb=>hb) I.ok.jC
theorem Inv.stack(I:Inv X pins σ H s):s.heap.FunFrames X.base X.stack:=by
 rcases I.ok.stk with e|⟨e,hf⟩
 ·rw[e];exact I.jC
 ·rw[e]
  obtain⟨m,hn,_⟩:=I.loc
  refine .cons (by rw[I.ok.kind];decide) hf hn ?_ I.jC
  exact Heap.get?_none_of_le (Nat.le_trans I.ok.bsz I.ok.above)
theorem Inv.qd(I:Inv X pins σ H s):∀b∈frs X.stack,b∈X.env.locals::X.fs:=λb hb=>by
 rcases I.ok.stk with e|⟨e,hf⟩
 ·rw[e] at hb;exact List.mem_cons_of_mem _ hb
 ·rw[e] at hb
  unfold frs at hb
  rw[List.filterMap_cons,hf] at hb
  exact hb
theorem Inv.j5(I:Inv X pins σ H s):∀b∈frs X.stack,H b=none:=λb hb=>by
 rcases List.mem_cons.mp (I.qd b hb) with e|hb
 ·rw[e];exact I.free
 ·obtain⟨_,o,ho,_⟩:=I.ok.jC.mem hb
  exact I.base.free b o ho (I.ok.frf b hb) λz=>I.ok.r8 b z hb
theorem Inv.step{g':Array GenState}{t':Nat}{d':Drawn}{ch:List Addr}(I:Inv X pins σ H s)
  (hch:∀b∈ch,(b∈X.ex∨X.s₀.heap.objs.size≤b)/\b≠X.env.locals/\(∀x c,X.env.cells.lookup x=some c->c≠b)/\∀p∈X.pn++pins,p.1≠b)
  (keep:∀b o,b≠X.env.locals->b∉X.fs->b∉ch->s.heap.get? b=some o->H b=none->h'.get? b=some o)
  (slot:∀b o,b≠X.env.locals->b∈X.fs->b∉ch->s.heap.get? b=some o->H b=none->∃sl,h'.get? b=some { o with slots:=sl }) (free:∀b o,b∉ch->s.heap.get? b=some o->H b=none->H' b=none)
  (there:∀b o,b∉ch->s.heap.get? b=some o->∃o',h'.get? b=some o')
  (il:∀b xs,H b=some (.tup xs)->H' b=some (.tup xs)) (bS:∀b o u,H b=some (.frz o u)->H' b=some (.frz o u)) (ip:∀b ps,H b=some (.tbl ps)->∃more,H' b=some (.tbl (ps++more)))
  (ns:∀m,s.heap.Ns X.env.locals m->h'.Ns X.env.locals m) (hok:HOk X.prog X.w H' h') (hg:AllBare g') :
  Inv X pins σ H' { s with heap:=h',gens:=g',drawn:=d',toks:=t' }:=by
 have neL:∀b o,X.s₀.heap.get? b=some o->b≠X.env.locals:=λb o e=>Nat.ne_of_lt (Nat.lt_of_lt_of_le (Heap.lt_size e) I.ok.above)
 have neC:∀b o,X.s₀.heap.get? b=some o->b∉X.ex->b∉ch:=λb o e hx hb=>by
  rcases (hch b hb).1 with z|z
  ·exact hx z
  ·exact absurd (Nat.lt_of_lt_of_le (Heap.lt_size e) z) (Nat.lt_irrefl _)
 have cellK:∀x c,X.env.cells.lookup x=some c->∀v,s.heap.IsCell c v->h'.IsCell c v:=λx c e v ao=>by
  obtain⟨o,ho,hd⟩:=ao
  have nch:c∉ch:=λz=>(hch c z).2.2.1 x c e rfl
  by_cases hc:c∈X.fs
  ·obtain⟨sl,q⟩:=slot c o (I.cne x c e) hc nch ho (I.df x c e)
   exact⟨_,q,hd⟩
  ·exact⟨o,keep c o (I.cne x c e) hc nch ho (I.df x c e),hd⟩
 refine⟨I.ok,I.os,hg,⟨λb o e n hb hx=>?_,λb o e n hb hx=>?_,λb o e n hx=>?_,λb o e hx=>?_,λb xs e=>il b xs (I.base.il b xs e),λb o xs e=>bS b o xs (I.base.bS b o xs e),λb ps e=>?_⟩,?_,λx c e=>?_,?_,λx c e=>?_,λp hp=>?_,hok,I.len⟩
 ·exact keep b o (neL b o e) hb (neC b o e hx) (I.base.keep b o e n hb hx) (I.base.free b o e n hx)
 ·obtain⟨sl,e1⟩:=I.base.slot b o e n hb hx
  obtain⟨sl',e2⟩:=slot b _ (neL b o e) hb (neC b o e hx) e1 (I.base.free b o e n hx)
  exact⟨sl',e2⟩
 ·obtain⟨o',e1⟩:=I.base.there b o e hx
  exact free b o' (neC b o e hx) e1 (I.base.free b o e n hx)
 ·obtain⟨o',e1⟩:=I.base.there b o e hx
  exact there b o' (neC b o e hx) e1
 ·obtain⟨m1,e1⟩:=I.base.ip b ps e
  obtain⟨m2,e2⟩:=ip b _ e1
  exact⟨m1++m2,by rw[e2,Array.append_assoc]⟩
 ·obtain⟨m,hn,hl⟩:=I.loc
  refine⟨m,ns m hn,λi x v e1 e2 e3=>?_⟩
  obtain⟨u,r,l⟩:=hl i x v e1 e2 e3
  refine⟨u,r,?_⟩
  rcases l with l|⟨k,c,e,z⟩
  ·exact .inl l
  ·exact .inr ⟨k,c,e,cellK x c e _ z⟩
 ·obtain⟨v,z⟩:=I.cell x c e
  exact⟨v,cellK x c e v z⟩
 ·obtain⟨m,⟨o,_,_,ho,_⟩,_⟩:=I.loc
  exact free _ o (λz=>(hch _ z).2.1 rfl) ho I.free
 ·obtain⟨v,o,ho,hd⟩:=I.cell x c e
  exact free c o (λz=>(hch c z).2.2.1 x c e rfl) ho (I.df x c e)
 ·obtain⟨e,n,ne,nf,d⟩:=I.pin p hp
  have nch:p.1∉ch:=λz=>(hch p.1 z).2.2.2 p hp rfl
  exact⟨keep p.1 p.2 ne nf nch e n,free p.1 p.2 nch e n,ne,nf,d⟩
theorem Inv.un{t':Nat}(I:Inv X pins σ H s)(u:Un X.fs [] H H' s.heap h')(hok:HOk X.prog X.w H' h'):Inv X pins σ H' { s with heap:=h',toks:=t' }:=by
 obtain⟨m,⟨o,es,ep,ho,r⟩,_⟩:=id I.loc
 obtain⟨sl,hL⟩:=u.any ho I.free (by simp)
 exact I.step (g':=s.gens) (d':=s.drawn) (ch:=[]) (λ_ z=>nomatch z) (λb o _ hb _ e n=>u.keep b o e n hb (by simp)) (λb o _ hb _ e n=>u.slot b o e n hb (by simp)) (λb o _ e n=>u.free b o e n (by simp)) (λb o _ e=>u.there b o e (by simp)) u.il u.bS u.ip (λm' hm=>by
  obtain⟨o',es',ep',ho',r'⟩:=hm
  rw[ho] at ho';cases ho'
  exact⟨_,es',ep',hL,r'⟩) hok I.bare
theorem Inv.call{g':Array GenState}{t':Nat}{d':Drawn}{ch:List Addr}(I:Inv X pins σ H s)(u:Un (frs X.stack) ch H H' s.heap h')(hok:HOk X.prog X.w H' h')(hg:AllBare g')
  (hch:∀b∈ch,(b∈X.ex∨X.s₀.heap.objs.size≤b)/\b≠X.env.locals/\(∀x c,X.env.cells.lookup x=some c->c≠b)/\∀p∈X.pn++pins,p.1≠b) :
  Inv X pins σ H' { s with heap:=h',gens:=g',drawn:=d',toks:=t' }:=by
 obtain⟨m,⟨o,es,ep,ho,r⟩,_⟩:=id I.loc
 obtain⟨sl,hL⟩:=u.any ho I.free λz=>(hch _ z).2.1 rfl
 exact I.step (ch:=ch) hch (λb o hL hb hc e n=>u.keep b o e n (λz=>(List.mem_cons.mp (I.qd b z)).elim hL hb) hc) (λb o _ _ hc e n=>u.any e n hc) (λb o hc e n=>u.free b o e n hc) (λb o hc e=>u.there b o e hc) u.il u.bS u.ip (λm' hm=>by
  obtain⟨o',es',ep',ho',r'⟩:=hm
  rw[ho] at ho';cases ho'
  exact⟨_,es',ep',hL,r'⟩) hok hg
theorem Inv.turned{t':Nat}{it:Addr}(I:Inv X pins σ H s)(k:∀b o,b≠it->s.heap.get? b=some o->h'.get? b=some o)(hn:H it=none)(hL:it≠X.env.locals)
  (h1:it∈X.ex∨X.s₀.heap.objs.size≤it) (h2:∀x c,X.env.cells.lookup x=some c->c≠it) (h3:∀p∈X.pn++pins,p.1≠it):Inv X pins σ H { s with heap:=h',toks:=t' }:=by
 have nit:∀b u,H b=some u->b≠it:=λb u e z=>by rw[z,hn] at e;cases e
 refine I.step (g':=s.gens) (d':=s.drawn) (ch:=[it]) (λb hb=>?_) (λb o _ _ hc e _=>k b o (λz=>hc (by simp[z])) e) (λb o _ _ hc e _=>⟨o.slots,k b o (λz=>hc (by simp[z])) e⟩) (λ_ _ _ _ n=>n)
  (λb o hc e=>⟨o,k b o (λz=>hc (by simp[z])) e⟩) (λ_ _ e=>e) (λ_ _ _ e=>e) (λb ps e=>⟨#[],by rw[e];simp⟩) (λm hm=>?_) (λb u e=>?_) I.bare
 ·have e:b=it:=by simpa using hb
  subst e
  exact⟨h1,hL,h2,h3⟩
 ·obtain⟨o,es,ep,ho,r⟩:=hm
  exact⟨o,es,ep,k _ o (Ne.symm hL) ho,r⟩
 ·refine(I.hok b u e).kY (λc v hc q=>k c v ?_ q) (λ_ q=>q) λ_ _ q=>q
  rcases hc with z|z
  ·rw[z];exact nit b u e
  ·exact nit c _ z
theorem Inv.tok(I:Inv X pins σ H s)(t:Nat):Inv X pins σ H { s with toks:=t }:=I.un (h':=s.heap) (t':=t) Un.refl I.hok
theorem Inv.kept{t':Nat}(I:Inv X pins σ H s)(k:∀b u,s.heap.get? b=some u->h'.get? b=some u):Inv X pins σ H { s with heap:=h',toks:=t' }:=I.un (Un.kept k) (I.hok.kept k)
theorem Inv.laid{a:Addr}{o:HO}{t':Nat}(I:Inv X pins σ H s)(k:∀b u,s.heap.get? b=some u->h'.get? b=some u)(hp:s.heap.objs.size≤a)(new:cS X.prog X.w (upd H a o) h' a o) :
  Inv X pins σ (upd H a o) { s with heap:=h',toks:=t' }:=I.un (Un.laid k hp (I.hok.fresh hp)) (I.hok.laid k hp new)
theorem Inv.write{x e:Addr}{o:HO}{t':Nat}(I:Inv X pins σ H s)(mu:Mut (H x))(he:e=x∨H e=some (.own x))(k:∀b u,b≠e->s.heap.get? b=some u->h'.get? b=some u)(heo:∃u,h'.get? e=some u)
  (new:cS X.prog X.w (upd H x o) h' x o):Inv X pins σ (upd H x o) { s with heap:=h',toks:=t' }:=I.un (Un.write mu he k heo) (I.hok.write mu he k heo new)
theorem Inv.wC{fC:List (Addr×Obj)}(I:Inv X pins σ H s)(h:∀p∈fC,s.heap.get? p.1=some p.2/\H p.1=none/\p.1≠X.env.locals/\p.1∉X.fs/\∀v,p.2.data≠.cell v):Inv X fC σ H s :=
 ⟨I.ok,I.os,I.bare,I.base,I.loc,I.cell,I.free,I.df,λp hp=>(List.mem_append.mp hp).elim (λz=>I.pin p (List.mem_append_left _ z)) (h p),I.hok,I.len⟩
theorem mH{N:List Str}(hN:N.Nodup){i j:Nat}{x:Str}(a:N[i]?=some x)(b:N[j]?=some x):i=j:=by
 obtain⟨h1,e1⟩:=List.getElem?_eq_some_iff.mp a
 obtain⟨h2,e2⟩:=List.getElem?_eq_some_iff.mp b
 exact(List.getElem_inj hN).mp (e1.trans e2.symm)
theorem o8{M:Model}{A:Around}{E:Value->Shared->Prop}{i:Nat}{x:Str}{v:V}{u:Value}{Q:Unit->Shared->Prop}(I:Inv X pins σ H s)(hN:X.N.Nodup)(hi:X.N[i]?=some x)(hx:Loc X.env.scope x)(r:RelV v u)
  (h:∀s',Inv X pins (σ.set i (some v)) H s'->(∃a,Heap.SameBut a s.heap s'.heap/\(a=X.env.locals∨X.env.cells.lookup x=some a))->Q () s') (hf:X.fn x=true∨X.env.scope.names.lookup x=some .local:=by first|exact .inl rfl|exact .inr rfl|assumption):wpAny M A (storeName X.env x u) Q E s:=by
 obtain⟨m,hn,hl⟩:=id I.loc
 have jD:(X.env.scope.kind==.class || (X.env.scope.kind==.module && X.env.locals != X.env.globals))=false:=by rw[I.ok.kind];rfl
 have hiσ:i<σ.length:=by rw[I.len];exact(List.getElem?_eq_some_iff.mp hi).1
 have cne:=I.cne
 have tracked:∀{a:Addr}{h':Heap},(∃o,s.heap.get? a=some o/\H a=none)->Heap.SameBut a s.heap h'->HOk X.prog X.w H h':=λ{a h'} ha hs b ob e=>by
  obtain⟨_,_,r_⟩:=ha
  refine(I.hok b ob e).kY (λc w' hc q=>(hs.2 c ?_).trans q) (λ_ q=>q) λ_ _ q=>q
  rintro rfl
  rcases hc with rfl|hc
  ·rw[r_] at e;cases e
  ·rw[r_] at hc;cases hc
 rcases hx with hk|hk
 ·refine wpAny_storeName_local hk hn (λh' hn' hs=>?_) jD
  obtain⟨oL,_,_,hoL,_⟩:=id hn
  refine h _ ⟨I.ok,I.os,I.bare,⟨λb o e n hb hx=>?_,λb o e n hb hx=>?_,I.base.free,λb o e hx=>?_,I.base.il,I.base.bS,I.base.ip⟩,⟨_,hn',λj y v' e1 e2 e3=>?_⟩,λy c e=>?_,I.free,I.df,λp hp=>?_,tracked ⟨oL,hoL,I.free⟩ hs,by simpa using I.len⟩ ⟨_,hs,.inl rfl⟩
  ·exact(hs.2 b (Nat.ne_of_lt (Nat.lt_of_lt_of_le (Heap.lt_size e) I.ok.above))).trans (I.base.keep b o e n hb hx)
  ·obtain⟨sl,e1⟩:=I.base.slot b o e n hb hx
   exact⟨sl,(hs.2 b (Nat.ne_of_lt (Nat.lt_of_lt_of_le (Heap.lt_size e) I.ok.above))).trans e1⟩
  ·obtain⟨o',e1⟩:=I.base.there b o e hx
   exact⟨o',(hs.2 b (Nat.ne_of_lt (Nat.lt_of_lt_of_le (Heap.lt_size e) I.ok.above))).trans e1⟩
  ·by_cases hj:j=i
   ·subst hj
    rw[hi] at e1;cases e1
    rw[List.getElem?_set_self hiσ] at e2
    cases e2
    exact⟨u,r,.inl ⟨hk,by simp⟩⟩
   ·rw[List.getElem?_set_ne (Ne.symm hj)] at e2
    obtain⟨u',r',q⟩:=hl j y v' e1 e2 e3
    refine⟨u',r',?_⟩
    rcases q with ⟨k,e⟩|⟨k,c,e,z⟩
    ·refine .inl ⟨k,?_⟩
     have:y≠x:=λe=>hj (mH hN e1 (e ▸ hi))
     simp[this,e]
    ·exact .inr ⟨k,c,e,z.sameBut hs (cne y c e)⟩
  ·obtain⟨w',z⟩:=I.cell y c e
   exact⟨w',z.sameBut hs (cne y c e)⟩
  ·obtain⟨e,n,ne,nf,d⟩:=I.pin p hp
   exact⟨(hs.2 p.1 ne).trans e,n,ne,nf,d⟩
 ·have hfn:X.fn x=true:=by
   rcases hf with z|z
   ·exact z
   ·rw[z] at hk;cases hk
  obtain⟨c,hc⟩:=I.ok.has x (.inl hk)
  obtain⟨w',z⟩:=I.cell x c hc
  refine wpAny_storeName_cell I.ok.kind hk hc z (λh' hc' hs=>?_)
  obtain⟨oc,hoc,MQ⟩:=id z
  refine h { s with heap:=h' } ⟨I.ok,I.os,I.bare,⟨λb o e n hb hx=>?_,λb o e n hb hx=>?_,I.base.free,λb o e hx=>?_,I.base.il,I.base.bS,I.base.ip⟩,⟨m,hn.sameBut hs (Ne.symm (cne x c hc)),λj y v' e1 e2 e3=>?_⟩,λy c' e=>?_,I.free,I.df,λp hp=>?_,tracked ⟨oc,hoc,I.df x c hc⟩ hs,by simpa using I.len⟩ ⟨c,hs,.inr hc⟩
  ·exact(hs.2 b (Nat.ne_of_lt (Nat.lt_of_lt_of_le (Heap.lt_size e) (I.ok.cab x c hfn hc)))).trans (I.base.keep b o e n hb hx)
  ·obtain⟨sl,e1⟩:=I.base.slot b o e n hb hx
   exact⟨sl,(hs.2 b (Nat.ne_of_lt (Nat.lt_of_lt_of_le (Heap.lt_size e) (I.ok.cab x c hfn hc)))).trans e1⟩
  ·obtain⟨o',e1⟩:=I.base.there b o e hx
   exact⟨o',(hs.2 b (Nat.ne_of_lt (Nat.lt_of_lt_of_le (Heap.lt_size e) (I.ok.cab x c hfn hc)))).trans e1⟩
  ·by_cases hj:j=i
   ·subst hj
    rw[hi] at e1;cases e1
    rw[List.getElem?_set_self hiσ] at e2
    cases e2
    exact⟨u,r,.inr ⟨.inl hk,c,hc,hc'⟩⟩
   ·rw[List.getElem?_set_ne (Ne.symm hj)] at e2
    obtain⟨u',r',q⟩:=hl j y v' e1 e2 e3
    refine⟨u',r',?_⟩
    rcases q with q|⟨k,c',e,z'⟩
    ·exact .inl q
    ·refine .inr ⟨k,c',e,z'.sameBut hs ?_⟩
     rintro rfl
     exact hj (mH hN e1 (I.ok.inj _ _ _ e hc ▸ hi))
  ·by_cases hcc:c'=c
   ·subst hcc;exact⟨_,hc'⟩
   ·obtain⟨w2,z2⟩:=I.cell y c' e
    exact⟨w2,z2.sameBut hs hcc⟩
  ·obtain⟨e,n,ne,nf,d⟩:=I.pin p hp
   refine⟨(hs.2 p.1 ?_).trans e,n,ne,nf,d⟩
   intro q
   rw[q,hoc] at e
   have q':oc=p.2:=Option.some.inj e
   exact d w' (by rw[← q'];exact MQ)
theorem j6{M:Model}{A:Around}{E:Value->Shared->Prop}{i:Nat}{x:Str}{v:V}{u:Value}{Q:Unit->Shared->Prop}(I:Inv X pins σ H s)(hN:X.N.Nodup)(hi:X.N[i]?=some x)(hx:Loc X.env.scope x)(r:RelV v u)
  (h:∀s',Inv X pins (σ.set i (some v)) H s'->Q () s') (hf:X.fn x=true∨X.env.scope.names.lookup x=some .local:=by first|exact .inl rfl|exact .inr rfl|assumption):wpAny M A (storeName X.env x u) Q E s :=
 o8 I hN hi hx r (λs' I' _=>h s' I') hf
theorem Inv.Hy{s':Shared}{ch:List Addr}(I:Inv X pins σ H s)(ho:s'.os=s.os)(u:Un (frs X.stack) ch H H' s.heap s'.heap)(hok:HOk X.prog X.w H' s'.heap)(hg:AllBare s'.gens)
  (hch:∀b∈ch,(b∈X.ex∨X.s₀.heap.objs.size≤b)/\b≠X.env.locals/\(∀x c,X.env.cells.lookup x=some c->c≠b)/\∀p∈X.pn++pins,p.1≠b):Inv X pins σ H' s':=by
 obtain⟨h',g',d',t',o'⟩:=s'
 have e:o'=s.os:=ho
 subst e
 exact I.call (g':=g') (t':=t') (d':=d') u hok hg hch
end
abbrev XK:=Value->Option Addr->Hp->Prop
abbrev St:=List (Option V)
abbrev VK:=V->Hp->Prop
abbrev TE:=St->Hp->VK->Prop
abbrev TT:=St->Hp->(Bool->Hp->Prop)->Prop
abbrev TA:=St->Hp->(List V->Hp->Prop)->Prop
structure Ends where
 nx:St->Hp->Prop
 rt:VK
 bk:St->Hp->Prop:=λ_ _=>False
 ct:St->Hp->Prop:=λ_ _=>False
abbrev TS:=Ends->St->Hp->Prop
def EP(X:Cx)(pins:List (Addr×Obj))(σ:St)(Q:VK)(u:Value)(s':Shared):Prop:=∃v H',Inv X pins σ H' s'/\RelV v u/\Q v H'
def TP(X:Cx)(pins:List (Addr×Obj))(σ:St)(Q:Bool->Hp->Prop)(b:Bool)(s':Shared):Prop:=∃H',Inv X pins σ H' s'/\Q b H'
def AP(X:Cx)(pins:List (Addr×Obj))(σ:St)(Q:List V->Hp->Prop)(us:List Value)(s':Shared):Prop:=∃vs H',Inv X pins σ H' s'/\Vals vs us/\Q vs H'
def SP(X:Cx)(pins:List (Addr×Obj))(D:Ends)(f:Flow)(s':Shared):Prop :=
 match f with
 | .next=>∃σ' H',Inv X pins σ' H' s'/\D.nx σ' H'
 | .brk=>∃σ' H',Inv X pins σ' H' s'/\D.bk σ' H'
 | .cont=>∃σ' H',Inv X pins σ' H' s'/\D.ct σ' H'
 | .ret u=>∃v σ' H',Inv X pins σ' H' s'/\RelV v u/\D.rt v H'
def PE(X:Cx)(e:Expr)(t:TE):Prop :=
 ∀(pins:List (Addr×Obj)) (s:Shared) (σ:St) (H:Hp) (Q:VK),Inv X pins σ H s->t σ H Q->wpAny (model X.prog X.w) X.A (eval e X.env) (EP X pins σ Q) X.xe s
def PT(X:Cx)(e:Expr)(t:TT):Prop :=
 ∀(pins:List (Addr×Obj)) (s:Shared) (σ:St) (H:Hp) (Q:Bool->Hp->Prop),Inv X pins σ H s->t σ H Q->wpAny (model X.prog X.w) X.A (isTrue e X.env (eval e X.env)) (TP X pins σ Q) X.xe s
def PW(X:Cx)(e:Expr)(t:TT):Prop :=
 ∀(whole:Sem Value) (pins:List (Addr×Obj)) (s:Shared) (σ:St) (H:Hp) (Q:Bool->Hp->Prop),Inv X pins σ H s->t σ H Q->wpAny (model X.prog X.w) X.A (isTrue e X.env whole) (TP X pins σ Q) X.xe s
theorem PW.pt{X:Cx}{e:Expr}{t:TT}(h:PW X e t):PT X e t:=h _
def PA(X:Cx)(es:List Expr)(t:TA):Prop :=
 ∀(pos:Pos) (pins:List (Addr×Obj)) (s:Shared) (σ:St) (H:Hp) (Q:List V->Hp->Prop),Inv X pins σ H s->t σ H Q->wpAny (model X.prog X.w) X.A (spliced (backTo pos (starEach es X.env))) (AP X pins σ Q) X.xe s
def PS(X:Cx)(st:Stmt)(t:TS):Prop :=
 ∀(pins:List (Addr×Obj)) (s:Shared) (σ:St) (H:Hp) (D:Ends),Inv X pins σ H s->t D σ H->wpAny (model X.prog X.w) X.A (exec st X.env) (SP X pins D) X.xe s
def PSs(X:Cx)(st:List Stmt)(t:TS):Prop :=
 ∀(pins:List (Addr×Obj)) (s:Shared) (σ:St) (H:Hp) (D:Ends),Inv X pins σ H s->t D σ H->wpAny (model X.prog X.w) X.A (execs st X.env) (SP X pins D) X.xe s
theorem thn{α:Type}{t:Sem α}{Q Q':α->Shared->Prop}{M:Model}{A:Around}{E:Value->Shared->Prop}{s:Shared}(h:wpAny M A t Q E s)(hQ:∀a s,Q a s->Q' a s):wpAny M A t Q' E s:=wpAny_mono h hQ λ_ _ x=>x
section
variable{X:Cx}
theorem bin{a b:Expr}{ta tb:TE}(ha:PE X a ta)(hb:PE X b tb){pins:List (Addr×Obj)}{s:Shared}{σ:St}{H:Hp}{R:V->V->Hp->Prop}(I:Inv X pins σ H s)(h:ta σ H λx H1=>tb σ H1 λy H2=>R x y H2)
  {α:Type}{Q:α->Shared->Prop}{f:Value->Value->Sem α}
  (hf:∀v u s2 x y H2,Inv X pins σ H2 s2->RelV x v->RelV y u->R x y H2->wpAny (model X.prog X.w) X.A (f v u) Q X.xe s2) :
  wpAny (model X.prog X.w) X.A (eval a X.env) (λv s₁=>wpAny (model X.prog X.w) X.A (eval b X.env) (λu s₂=>wpAny (model X.prog X.w) X.A (f v u) Q X.xe s₂) X.xe s₁) X.xe s:=by
 refine thn (ha pins s σ H _ I h) λv s1 ao=>?_
 obtain⟨x,H1,I1,r1,q1⟩:=ao
 refine thn (hb pins s1 σ H1 _ I1 q1) λu s2 dt=>?_
 obtain⟨y,H2,I2,r2,q2⟩:=dt
 exact hf v u s2 x y H2 I2 r1 r2 q2
def MR(i:Nat):TE:=λσ H Q=>∃v,σ[i]?=some (some v)/\Q v H
def tC(v:V):TE:=λ_ H Q=>Q v H
theorem AK{i:Nat}{x:Str}{pos:Pos}(hN:X.N[i]?=some x)(hv:Vis X.env.scope x)(hd:(x==("__debug__":Str))=false:=by decide)(hcd:(x==("__classdict__":Str))=false:=by decide):PE X (.Name x pos) (MR i):=by
 intro pins s σ H Q I h
 obtain⟨v,e,h⟩:=h
 obtain⟨m,hn,hl⟩:=I.loc
 obtain⟨u,r,l⟩:=hl i x v hN e hv
 have fin:EP X pins σ Q u s:=⟨v,H,I,r,h⟩
 rcases l with ⟨hk,hm⟩|⟨hk,c,hc,wD⟩
 ·exact wpAny_Name (wpAny_loadName_local I.ok.kind hk hn hm fin) hd
 ·rcases hk with hk|hk
  ·exact wpAny_Name (wpAny_loadName_cell I.ok.kind hk hc wD fin) hd
  ·exact wpAny_Name (wpAny_loadName_free I.ok.kind hk hc wD fin hcd) hd
theorem Il{i j pos}:PE X (.Constant (.int i) j pos) (tC (.int i)):=λ_ _ _ H _ I h=>wpAny_Constant_int ⟨.int i,H,I.tok _,⟨_,rfl⟩,h⟩
theorem KO{b j pos}:PE X (.Constant (.bool b) j pos) (tC (.bl b)):=λ_ _ _ H _ I h=>Constant_bool ⟨.bl b,H,I,rfl,h⟩
theorem Im{j pos}:PE X (.Constant .none j pos) (tC .non):=λ_ _ _ H _ I h=>Constant_none ⟨.non,H,I,rfl,h⟩
theorem Io{x j pos}:PE X (.Constant (.str x) j pos) (tC (.str x)):=λ_ _ _ H _ I h=>Calls.Constant_str ⟨.str x,H,I.tok _,⟨_,rfl⟩,h⟩
def Gl(X:Cx)(x:Str):Prop:=X.env.kindOf x=some .globalImplicit
theorem iY{E:Value->Shared->Prop}{pins:List (Addr×Obj)}{s:Shared}{σ:St}{H:Hp}{x:Str}{u:Value}{pos:Pos}{Q:Value->Shared->Prop}(I:Inv X pins σ H s)(hg:Gl X x)(hm:X.mg x=some u)(h:Q u s)
  (hd:(x==("__debug__":Str))=false:=by decide):wpAny (model X.prog X.w) X.A (eval (.Name x pos) X.env) Q E s :=
 Calls.Name_function_global I.ok.kind hg (Calls.loadGlobal_global (by rw[I.ok.glob];exact I.mod.glob.keeps I.bk) hm h) hd
theorem mI{E:Value->Shared->Prop}{pins:List (Addr×Obj)}{s:Shared}{σ:St}{H:Hp}{x:Str}{u:Value}{pos:Pos}{Q:Value->Shared->Prop}(I:Inv X pins σ H s)(hg:Gl X x)(hm:X.mg x=none)(hv:bootBuiltins x=some u)(h:Q u s)
  (hn:x≠"__name__":=by decide) (hd:(x==("__debug__":Str))=false:=by decide):wpAny (model X.prog X.w) X.A (eval (.Name x pos) X.env) Q E s:=by
 obtain⟨mb,h1,h2⟩:=I.mod.blt
 exact Calls.Name_function_global I.ok.kind hg (Calls.loadGlobal_builtin (by rw[I.ok.glob];exact I.mod.glob.keeps I.bk) hm (by rw[I.ok.blt];exact h1.keeps I.bk) ((h2 x hn).trans hv) h) hd
theorem me{x:Str}{v:V}{u:Value}{pos:Pos}(hg:Gl X x)(hm:X.mg x=some u)(r:RelV v u)(hd:(x==("__debug__":Str))=false:=by decide):PE X (.Name x pos) (tC v) :=
 λ_ _ _ H _ I h=>iY I hg hm ⟨v,H,I,r,h⟩ hd
theorem wF{x:Str}{v:V}{u:Value}{pos:Pos}(hg:Gl X x)(hm:X.mg x=none)(hv:bootBuiltins x=some u)(r:RelV v u)(hn:x≠"__name__":=by decide)(hd:(x==("__debug__":Str))=false:=by decide):PE X (.Name x pos) (tC v) :=
 λ_ _ _ H _ I h=>mI I hg hm hv ⟨v,H,I,r,h⟩ hn hd
variable{a b:Expr}{ta tb:TE}{pos:Pos}
def PC(X:Cx)(op:CmpOp)(a b:Expr)(t:TE):Prop :=
 ∀(pins:List (Addr×Obj)) (s:Shared) (σ:St) (H:Hp) (Q:VK),Inv X pins σ H s->t σ H Q ->
  wpAny (model X.prog X.w) X.A (eval a X.env) (λv s₁=>wpAny (model X.prog X.w) X.A (eval b X.env) (λu s₂=>wpAny (model X.prog X.w) X.A (compareOp op v u) (EP X pins σ Q) X.xe s₂) X.xe s₁) X.xe s
theorem AL(b:Expr){op:CmpOp}(h:op≠.In)(h2:op≠.NotIn):behindInMarks op b=false:=by
 have e1:(op==CmpOp.In)=false:=by cases op<;>first|rfl|exact absurd rfl h
 have e2:(op==CmpOp.NotIn)=false:=by cases op<;>first|rfl|exact absurd rfl h2
 cases b<;>simp[behindInMarks,e1,e2]
def tB(t:TE):TT:=λσ H Q=>t σ H λx H1=>∃c,x=.bl c/\Q c H1
theorem MS{op:CmpOp}{t:TE}(h:PC X op a b t)(h1:behindInMarks op b=false:=by first|exact AL _ (by decide) (by decide)|rfl):PT X (.Compare a [op] [b] pos) (tB t):=by
 intro pins s σ H Q I hw
 refine wpAny_isTrue_Compare1 (thn (h pins s σ H _ I hw) λv s1 h1=>thn h1 λu s2 h2=>thn h2 λc s3 ao=>?_) h1
 obtain⟨x,H1,I1,r1,q1⟩:=ao
 obtain⟨d,rfl,q⟩:=q1
 cases r1
 exact wpAny_truthy_bool ⟨H1,I1,q⟩
theorem Ip{e:Expr}{t:TE}(h:PE X e t)(he:∀whole,isTrue e X.env whole=(do let v ← whole;standAt e.pos;holding [v] (truthy v)):=by intro _;rfl):PT X e (tB t):=by
 intro pins s σ H Q I hw
 refine isTrue_plain (thn (h pins s σ H _ I hw) λv s1 ao=>?_) (he _)
 obtain⟨x,H1,I1,r1,q1⟩:=ao
 obtain⟨d,rfl,q⟩:=q1
 cases r1
 exact wpAny_truthy_bool ⟨H1,I1,q⟩
variable{tA tB':TT}{rest:List Expr}
def tOr(t u:TT):TT:=λσ H Q=>t σ H λc H1=>if c=true then Q true H1 else u σ H1 Q
def MT(t:TT):TT:=λσ H Q=>t σ H λc H1=>Q (!c) H1
theorem Iq(ha:PT X a tA):PW X (.BoolOp .Or [a] pos) tA:=by
 intro wh pins s σ H Q I h
 refine isTrue_or (thn (ha pins s σ H Q I h) λc s1 e=>?_)
 cases c with
 | false=>exact isTrue_or_nil e
 | true=>exact e
theorem KP(ha:PT X a tA)(hb:PW X (.BoolOp .Or (b::rest) pos) tB'):PW X (.BoolOp .Or (a::b::rest) pos) (tOr tA tB'):=by
 intro wh pins s σ H Q I h
 refine isTrue_or (thn (ha pins s σ H _ I h) λc s1 ao=>?_)
 obtain⟨H1,I1,q1⟩:=ao
 cases c with
 | true=>exact⟨H1,I1,q1⟩
 | false=>exact hb wh pins s1 σ H1 Q I1 q1
theorem Ir(ha:PT X a tA):PT X (.UnaryOp .Not a pos) (MT tA):=by
 intro pins s σ H Q I h
 exact isTrue_not (ha pins s σ H (λc H1=>Q (!c) H1) I h)
def KQ(ta tb:TE):TE:=λσ H Q=>ta σ H λx H1=>∃c,x=.bl c/\if c=true then tb σ H1 Q else Q (.bl false) H1
theorem Iu{op}{t:TE}(h:PE X a t):PE X (.BoolOp op [a] pos) t:=λpins s σ H Q I hw=>BoolOp_one (h pins s σ H Q I hw)
theorem Iv(ha:PE X a ta)(hb:PE X (.BoolOp .And (b::rest) pos) tb):PE X (.BoolOp .And (a::b::rest) pos) (KQ ta tb):=by
 intro pins s σ H Q I h
 refine BoolOp_and (thn (ha pins s σ H _ I h) λv s1 ao=>?_)
 obtain⟨x,H1,I1,r1,q1⟩:=ao
 obtain⟨c,rfl,q1⟩:=q1
 cases r1
 refine wpAny_truthy_bool ?_
 cases c with
 | true=>exact hb pins s1 σ H1 Q I1 q1
 | false=>exact⟨.bl false,H1,I1,rfl,q1⟩
end
def SqL(K:PySem.W.Frag)(H:Hp)(a:Addr)(xs:List V):Prop :=
 Rd H a (.lst xs) ∨
  ∃(o:Obj) (its:Array Value) (n:Nat),K.lookup a=some o/\o.cls=.type "list"/\o.dict=none/\o.data=.seq its n/\its.size≤sizeLine/\Vals xs its.toList
def SqT(K:PySem.W.Frag)(H:Hp)(a:Addr)(xs:List V):Prop :=
 H a=some (.tup xs)
def MU:Value->Option V
 | .none=>some .non
 | .bool b=>some (.bl b)
 | .int i _=>some (.int i)
 | .str x _=>some (.str x)
 | .bytes b _=>some (.byt b)
 | .float b _=>some (.flt b)
 | .ref a=>some (.ref a)
 | .type n=>some (.ty n)
 | _=>none
theorem RelV.abs{x:V}{u:Value}(r:RelV x u):MU u=some x:=by
 cases x with
 | non=>cases r;rfl
 | bl _=>cases r;rfl
 | int _=>obtain⟨t,rfl⟩:=r;rfl
 | str _=>obtain⟨t,rfl⟩:=r;rfl
 | byt _=>obtain⟨t,rfl⟩:=r;rfl
 | flt _=>obtain⟨t,rfl⟩:=r;rfl
 | ref _=>cases r;rfl
 | ty _=>cases r;rfl
theorem RelV.inj{x y:V}{u:Value}(r:RelV x u)(q:RelV y u):x=y:=Option.some.inj (r.abs.symm.trans q.abs)
theorem Vals.inj:∀{xs ys:List V}{us:List Value},Vals xs us->Vals ys us->xs=ys
 | _,_,_,.nil,.nil=>rfl
 | _,_,_,.cons r t,.cons r' t'=>by rw[r.inj r',Vals.inj t t']
section
variable{X:Cx}{pins:List (Addr×Obj)}{σ:St}{H:Hp}{s:Shared}{a:Addr}{xs ys:List V}
theorem SqL.of{K:PySem.W.Frag}(h:H a=some (.lst xs)):SqL K H a xs:=.inl (.inl h)
theorem SqT.of{K:PySem.W.Frag}(h:H a=some (.tup xs)):SqT K H a xs:=h
theorem Inv.list(I:Inv X pins σ H s)(h:SqL X.K H a xs):∃its:List Value,Vals xs its/\PlainL s.heap a its.toArray/\xs.length≤sizeLine:=by
 rcases h with h|⟨o,its,n,hk,hc,hd,hs,hz,r⟩
 ·obtain⟨z,its,n,r,e⟩:=h.ok I.hok
  exact⟨its,r,⟨_,n,e,rfl,rfl,rfl⟩,z⟩
 ·refine⟨its.toList,r,⟨o,n,I.kIn a o hk,hc,hd,by simpa using hs⟩,?_⟩
  have e:=r.length
  simp only[Array.length_toList] at e
  lia
theorem Inv.tuple(I:Inv X pins σ H s)(h:SqT X.K H a xs):∃its:List Value,Vals xs its/\IsTup s.heap a its.toArray/\xs.length≤sizeLine:=by
 obtain⟨z,its,r,p⟩:=(show cS X.prog X.w H s.heap a (.tup xs) from I.hok a _ h)
 exact⟨its,r,p,z⟩
theorem Inv.AM(I:Inv X pins σ H s)(h:SqL X.K H a xs)(h':SqL X.K H a ys):xs=ys:=by
 obtain⟨its,r,⟨o,n,e,_,_,d⟩,_⟩:=I.list h
 obtain⟨its',r',⟨o',n',e',_,_,d'⟩,_⟩:=I.list h'
 rw[e] at e';cases e'
 rw[d] at d'
 injection d' with d1 _
 have:its=its':=by simpa using congrArg Array.toList d1
 subst this
 exact r.inj r'
theorem Inv.xX(I:Inv X pins σ H s)(h:SqT X.K H a xs)(h':SqT X.K H a ys):xs=ys:=by
 obtain⟨its,r,⟨o,e,_,n,d⟩,_⟩:=I.tuple h
 obtain⟨its',r',⟨o',e',_,n',d'⟩,_⟩:=I.tuple h'
 rw[e] at e';cases e'
 rw[d] at d'
 injection d' with d1 _
 have:its=its':=by simpa using congrArg Array.toList d1
 subst this
 exact r.inj r'
end
abbrev Cx.oN(X:Cx)(E:Value->Shared->Prop):Cx:={ X with xe:=E }
abbrev Cx.nox(X:Cx):Cx:=X.oN λ_ _=>False
theorem Cx.Ok.oN{X:Cx}(ok:X.Ok)(E:Value->Shared->Prop):(X.oN E).Ok :=
 ⟨ok.mod,ok.kind,ok.glob,ok.blt,ok.above,ok.inj,ok.has,ok.cab,ok.hd,ok.frames,ok.stk,ok.exf,ok.bs,ok.bsz,ok.oM,ok.r8,ok.jC,ok.frf⟩
theorem Cx.Ok.iq{X:Cx}{E:Value->Shared->Prop}(ok:(X.oN E).Ok):X.Ok :=
 ⟨ok.mod,ok.kind,ok.glob,ok.blt,ok.above,ok.inj,ok.has,ok.cab,ok.hd,ok.frames,ok.stk,ok.exf,ok.bs,ok.bsz,ok.oM,ok.r8,ok.jC,ok.frf⟩
section
variable{X:Cx}{pins:List (Addr×Obj)}{σ:St}{H:Hp}{s:Shared}{E:Value->Shared->Prop}
theorem Inv.oN(I:Inv X pins σ H s)(E:Value->Shared->Prop):Inv (X.oN E) pins σ H s:=⟨I.ok.oN E,I.os,I.bare,I.base,I.loc,I.cell,I.free,I.df,I.pin,I.hok,I.len⟩
theorem Inv.iq(I:Inv (X.oN E) pins σ H s):Inv X pins σ H s:=⟨I.ok.iq,I.os,I.bare,I.base,I.loc,I.cell,I.free,I.df,I.pin,I.hok,I.len⟩
theorem SP.iq{D:Ends}{f:Flow}{s':Shared}(h:SP (X.oN E) pins D f s'):SP X pins D f s':=by
 cases f with
 | next=>obtain⟨σ',H',I,q⟩:=h;exact⟨σ',H',I.iq,q⟩
 | brk=>obtain⟨σ',H',I,q⟩:=h;exact⟨σ',H',I.iq,q⟩
 | cont=>obtain⟨σ',H',I,q⟩:=h;exact⟨σ',H',I.iq,q⟩
 | ret u=>obtain⟨v,σ',H',I,r,q⟩:=h;exact⟨v,σ',H',I.iq,r,q⟩
theorem PSs.nox{st:List Stmt}{t:TS}(h:PSs X.nox st t):PSs X st t:=λpins s σ H D I hw =>
 wpAny_mono (h pins s σ H D (I.oN _) hw) (λ_ _ q=>q.iq) λ_ _ z=>False.elim z
end
section
variable{X:Cx}{st:Stmt}{rest:List Stmt}{t u:TS}{e:Expr}{te:TE}{pos:Pos}
def KR:TS:=λD σ H=>D.nx σ H
def MV(t u:TS):TS:=λD σ H=>t { D with nx:=u D } σ H
theorem EV:PSs X [] KR:=λ_ _ σ H _ I h=>wpAny_execs_nil ⟨σ,H,I,h⟩
theorem AN(h1:PS X st t)(h2:PSs X rest u):PSs X (st::rest) (MV t u):=by
 intro pins s σ H D I h
 refine wpAny_execs_cons (thn (h1 pins s σ H { D with nx:=u D } I h) λf s1 q=>?_)
 cases f with
 | next =>
  obtain⟨σ',H',I',q⟩:=q
  exact h2 pins s1 σ' H' D I' q
 | ret v=>exact q
 | brk=>exact q
 | cont=>exact q
theorem EW(h1:PS X st t):PSs X [st] t:=by
 intro pins s σ H D I h
 refine wpAny_execs_cons (thn (h1 pins s σ H D I h) λf s1 q=>?_)
 cases f with
 | next=>exact wpAny_execs_nil q
 | ret v=>exact q
 | brk=>exact q
 | cont=>exact q
theorem Inv.quiet{pins:List (Addr×Obj)}{σ:St}{H:Hp}{s:Shared}(I:Inv X pins σ H s):interactive X.env=false:=by simp[interactive,I.ok.kind]
def KS(te:TE):TS:=λD σ H=>te σ H λ_ H1=>D.nx σ H1
theorem wG(he:PE X e te)(hs:swapsWith e none pos.line X.env=pure false:=by rfl):PS X (.Expr e pos) (KS te):=by
 intro pins s σ H D I h
 exact wpAny_Expr_any (thn (he pins s σ H _ I h) λv s1 ⟨x,H1,I1,r1,q1⟩=>⟨σ,H1,I1,q1⟩) I.quiet hs
def MW(te:TE):TS:=λD σ H=>te σ H D.rt
theorem Iw(he:PE X e te):PS X (.Return (some e) pos) (MW te):=by
 intro pins s σ H D I h
 exact wpAny_Return_some (thn (he pins s σ H _ I h) λv s1 ⟨x,H1,I1,r1,q1⟩=>⟨x,σ,H1,I1,r1,q1⟩)
def MX(c:TT)(t u:TS):TS:=λD σ H=>c σ H λb H1=>if b=true then t D σ H1 else u D σ H1
theorem KU{c:Expr}{a b:List Stmt}{tc:TT}(hc:PT X c tc)(ha:PSs X a t)(hb:PSs X b u):PS X (.If c a b pos) (MX tc t u):=by
 intro pins s σ H D I h
 refine wpAny_If (thn (hc pins s σ H _ I h) λd s1 ao=>?_)
 obtain⟨H1,I1,q1⟩:=ao
 cases d with
 | true=>exact ha pins s1 σ H1 D I1 q1
 | false=>exact hb pins s1 σ H1 D I1 q1
end
abbrev TG:=V->St->Hp->(St->Hp->Prop)->Prop
abbrev TGs:=List V->St->Hp->(St->Hp->Prop)->Prop
def PG(X:Cx)(target:Expr)(t:TG):Prop :=
 ∀(pins:List (Addr×Obj)) (s:Shared) (σ:St) (H:Hp) (v:V) (u:Value) (Q:St->Hp->Prop),Inv X pins σ H s->RelV v u->t v σ H Q ->
  wpAny (model X.prog X.w) X.A (assign target X.env u) (λ_ s'=>∃σ' H',Inv X pins σ' H' s'/\Q σ' H') X.xe s
def PGs(X:Cx)(ts:List Expr)(t:TGs):Prop :=
 ∀(pins:List (Addr×Obj)) (s:Shared) (σ:St) (H:Hp) (vs:List V) (us:List Value) (Q:St->Hp->Prop),Inv X pins σ H s->Vals vs us->t vs σ H Q ->
  wpAny (model X.prog X.w) X.A (assignInOrder ((assignEach ts X.env).map (·.2)) us) (λ_ s'=>∃σ' H',Inv X pins σ' H' s'/\Q σ' H') X.xe s
abbrev Iy:=V->V->V->Hp->(Hp->Prop)->Prop
def KW(X:Cx)(t:Iy):Prop :=
 ∀(pins:List (Addr×Obj)) (s:Shared) (σ:St) (H:Hp) (o i v:V) (ov iv u:Value) (Q:Hp->Prop),Inv X pins σ H s->RelV o ov->RelV i iv->RelV v u->t o i v H Q ->
  wpAny (model X.prog X.w) X.A (setItem ov iv u) (λ_ s'=>∃H',Inv X pins σ H' s'/\Q H') X.xe s
section
variable{X:Cx}{pos:Pos}
def AO(i:Nat):TG:=λv σ H Q=>Q (σ.set i (some v)) H
theorem qe{i:Nat}{x:Str}(hN:X.N.Nodup)(hi:X.N[i]?=some x)(hx:Loc X.env.scope x)(hf:X.fn x=true∨X.env.scope.names.lookup x=some .local:=by first|exact .inl rfl|exact .inr rfl|assumption):PG X (.Name x pos) (AO i):=by
 intro pins s σ H v u Q I r h
 exact wpAny_assign_Name (j6 I hN hi hx r (λs' I'=>⟨_,H,I',h⟩) hf)
def MY:TGs:=λvs σ H Q=>vs=[]/\Q σ H
def KY(t:TG)(u:TGs):TGs:=λvs σ H Q=>∃v r,vs=v::r/\t v σ H λσ' H'=>u r σ' H' Q
theorem EX:PGs X [] MY:=by
 intro pins s σ H vs us Q I r h
 obtain⟨e,h⟩:=h
 subst e
 cases r
 exact assignInOrder_nil ⟨σ,H,I,h⟩
theorem sa{e:Expr}{es:List Expr}{t:TG}{u:TGs}(h1:PG X e t)(h2:PGs X es u)
  (hs:(assignEach (e::es) X.env).map (·.2)=assign e X.env::(assignEach es X.env).map (·.2):=by rfl):PGs X (e::es) (KY t u):=by
 intro pins s σ H vs us Q I r h
 obtain⟨v,vr,e1,h⟩:=h
 subst e1
 cases r with
 | cons r rr =>
  rw[hs]
  refine assignInOrder_cons (thn (h1 pins s σ H _ _ _ I r h) λ_ s1 ao=>?_)
  obtain⟨σ1,H1,I1,q1⟩:=ao
  exact h2 pins s1 σ1 H1 _ _ Q I1 rr q1
def MZ(K:PySem.W.Frag)(n:Nat)(t:TGs):TG:=λv σ H Q=>∃a xs,v=.ref a/\SqT K H a xs/\xs.length=n/\t xs σ H Q
theorem Iz{es:List Expr}{k:Nat}{t:TGs}{n:Nat}(hc:X.calm=true)(h:PGs X es t)
  (hn:(assignEach es X.env).length=n:=by rfl) (hst:(assignEach es X.env).findIdx? (·.1)=none:=by rfl):PG X (.Tuple es k pos) (MZ X.K n t):=by
 intro pins s σ H v u Q I r hw
 obtain⟨a,xs,e1,hq,hl,hw⟩:=hw
 subst e1
 cases r
 obtain⟨its,rv,ht,hz⟩:=I.tuple hq
 refine assign_Tuple_tuple (I.ok.hd hc) ht (by simp[hn,← hl,rv.length]) hst λh' hx=>?_
 have I1:Inv X pins σ H { s with heap:=h' }:=I.kept (t':=s.toks) λb o e=>hx b o (Nat.ne_of_lt (Heap.lt_size e)) e
 exact h pins _ σ H xs _ Q I1 (by simpa using rv) hw
def M0(to ti:TE)(t:Iy):TG:=λv σ H Q=>to σ H λo H1=>ti σ H1 λi H2=>t o i v H2 λH3=>Q σ H3
theorem IA{o i:Expr}{to ti:TE}{t:Iy}(ho:PE X o to)(hi:PE X i ti)(hs:KW X t)
  (ha:∀v,assign (.Subscript o i pos) X.env v=(do
   let ov ← holding [v] (eval o X.env)
   let iv ← holding [v,ov] (eval i X.env)
   standAt pos
   holding [v,ov,iv] (setItem ov iv v)
   release [v,ov,iv] []):=by intro _;rfl):PG X (.Subscript o i pos) (M0 to ti t):=by
 intro pins s σ H v u Q I r h
 rw[ha]
 refine wpAny_bind (wpAny_holding (thn (ho pins s σ H _ I h) λov s1 ao=>?_))
 obtain⟨x,H1,I1,r1,q1⟩:=ao
 refine wpAny_bind (wpAny_holding (thn (hi pins s1 σ H1 _ I1 q1) λiv s2 dt=>?_))
 obtain⟨y,H2,I2,r2,q2⟩:=dt
 refine wpAny_bind (wpAny_standAt (wpAny_bind (wpAny_holding (thn (hs pins s2 σ H2 x y v ov iv u _ I2 r1 r2 r q2) λ_ s3 sd=>?_))))
 obtain⟨H3,I3,q3⟩:=sd
 exact wpAny_release ⟨σ,H3,I3,q3⟩
def IB(te:TE)(g:TG):TS:=λD σ H=>te σ H λx H1=>g x σ H1 D.nx
theorem AQ{tg e:Expr}{te:TE}{g:TG}(he:PE X e te)(hg:PG X tg g)(hs:swapsWithSole [tg] e pos.line X.env=pure false:=by rfl)(hw:swappedStores [tg] e X.env=pure none:=by rfl)
  (h1:(assignEach [tg] X.env).map (·.2)=[assign tg X.env]:=by rfl):PS X (.Assign [tg] e pos) (IB te g):=by
 intro pins s σ H D I h
 refine wpAny_Assign_stores (thn (he pins s σ H _ I h) λv s1 ao=>?_) hs hw
 obtain⟨x,H1,I1,r1,q1⟩:=ao
 rw[h1]
 exact thn (hg pins s1 σ H1 x v _ I1 r1 q1) λ_ s2 q=>q
theorem IC{i:Nat}{x:Str}{e:Expr}{te:TE}{pos':Pos}(hN:X.N.Nodup)(hi:X.N[i]?=some x)(hx:Loc X.env.scope x)(he:PE X e te)(hs:swapsWith e (some (.Name x pos')) pos.line X.env=pure false:=by rfl)(hf:X.fn x=true∨X.env.scope.names.lookup x=some .local:=by first|exact .inl rfl|exact .inr rfl|assumption) :
  PS X (.Assign [.Name x pos'] e pos) (IB te (AO i)):=by
 intro pins s σ H D I h
 refine wpAny_Assign_Name (thn (he pins s σ H _ I h) λv s1 ao=>?_) hs
 obtain⟨y,H1,I1,r1,q1⟩:=ao
 exact j6 I1 hN hi hx r1 (λs2 I2=>⟨_,H1,I2,q1⟩) hf
end
section
variable{X:Cx}{pos:Pos}
def ID(c:TT)(tb:TS):TS:=λD σ H=>∃W:Nat->St->Hp->Prop,(∃m,W m σ H)/\∀m σ H,W m σ H ->
 c σ H λb H1=>if b=true then ∃N:St->Hp->Prop,(∀σ' H',N σ' H'->∃m',m'<m/\W m' σ' H')/\tb { D with nx:=N,ct:=N,bk:=D.nx } σ H1 else D.nx σ H1
theorem AR{c:Expr}{body:List Stmt}{tc:TT}{tb:TS}(hp:PassesOwn (model X.prog X.w) X.A X.env X.xe)(hc:PT X c tc)(hb:PSs X body tb):PS X (.While c body [] pos) (ID tc tb):=by
 intro pins s σ H D I h
 obtain⟨W,⟨m0,w0⟩,turn⟩:=h
 refine wpAny_While (codeAny_whileLoop (λn s'=>∃σ' H',Inv X pins σ' H' s'/\W n σ' H') ?_ m0 ⟨σ,H,I,w0⟩)
 rintro n s1 ⟨σ1,H1,I1,w1⟩
 refine wpAny_passesOwn hp (thn (hc pins s1 σ1 H1 _ I1 (turn n σ1 H1 w1)) λb s2 ao=>?_)
 obtain⟨H2,I2,q2⟩:=ao
 cases b with
 | true =>
  obtain⟨N,hN,q2⟩:=q2
  rw[if_pos rfl]
  refine wpAny_passesOwn hp (thn (hb pins s2 σ1 H2 _ I2 q2) λf s3 q3=>?_)
  cases f with
  | next =>
   obtain⟨σ3,H3,I3,n3⟩:=q3
   obtain⟨m',hm,w3⟩:=hN σ3 H3 n3
   exact⟨m',hm,σ3,H3,I3,w3⟩
  | cont =>
   obtain⟨σ3,H3,I3,n3⟩:=q3
   obtain⟨m',hm,w3⟩:=hN σ3 H3 n3
   exact⟨m',hm,σ3,H3,I3,w3⟩
  | brk=>exact q3
  | ret v=>exact q3
 | false =>
  rw[if_neg Bool.false_ne_true]
  exact wpAny_execs_nil ⟨σ1,H2,I2,q2⟩
end
structure It where
 go:Nat->Hp->Prop
 yld:Nat->Hp->V->Hp->Prop
 stop:Nat->Hp->Prop
def kZ(X:Cx)(pins:List (Addr×Obj))(H:Hp)(b:Addr):Prop :=
 H b=none/\b≠X.env.locals/\b∉X.fs/\(b∈X.ex∨X.s₀.heap.objs.size≤b)/\(∀x c,X.env.cells.lookup x=some c->c≠b)/\∀p∈X.pn++pins,p.1≠b
theorem Inv.xY{X:Cx}{pins:List (Addr×Obj)}{σ:St}{H H':Hp}{s:Shared}{b:Addr}(I:Inv X pins σ H s)(hb:s.heap.objs.size≤b)(hn:H' b=none):kZ X pins H' b:=by
 refine⟨hn,Nat.ne_of_gt (Nat.lt_of_lt_of_le I.lt hb),I.MP hb,.inr (Nat.le_trans I.sz hb),λx c e z=>?_,λp hp z=>?_⟩
 ·obtain⟨v,q⟩:=I.cell x c e
  exact absurd (Nat.lt_of_lt_of_le q.lt (by rw[z];exact hb)) (Nat.lt_irrefl _)
 ·exact absurd (Nat.lt_of_lt_of_le (Heap.lt_size (I.pin p hp).1) (by rw[z];exact hb)) (Nat.lt_irrefl _)
structure Turn(P:Program)(w:World)(K:PySem.W.Frag)(tg:Expr)(J:It)(fp:List Addr)(it:Addr)(tn:Nat->Heap->Prop):Prop where
 mem:it∈fp
 obj:∀i h,tn i h->∀b∈fp,∃o,h.get? b=some o/\∀v,o.data≠.cell v
 keep:∀i h h',tn i h->(∀b∈fp,∀o,h.get? b=some o->h'.get? b=some o)->tn i h'
 item:∀(X:Cx),X.prog=P->X.w=w->X.K=K->X.calm=true->∀(i:Nat) (pins:List (Addr×Obj)) (s:Shared) (σ:St) (H:Hp) (E:Value->Shared->Prop),Inv X pins σ H s->(∀b∈fp,kZ X pins H b)->tn i s.heap->J.go i H ->
  wpAny (model P w) X.A (pyNext (.ref it)) (λr s1=>∃u,r=some u /\
   wpAny (model P w) X.A (letOwnedTupleGo tg (.ref it) u) (λ_ s2=>∃x H',Inv X pins σ H' s2/\RelV x u/\J.yld i H x H'/\tn (i+1) s2.heap/\∀b∈fp,H' b=none) E s1) E s
 done:∀(X:Cx),X.prog=P->X.w=w->X.K=K->X.calm=true->∀(i:Nat) (pins:List (Addr×Obj)) (s:Shared) (σ:St) (H:Hp) (E:Value->Shared->Prop),Inv X pins σ H s->(∀b∈fp,kZ X pins H b)->tn i s.heap->J.stop i H ->
  wpAny (model P w) X.A (pyNext (.ref it)) (λr s1=>r=none/\Inv X pins σ H s1) E s
 self:∀(A:Around) (i:Nat) (s:Shared) (Q:Value->Shared->Prop) (E:Value->Shared->Prop),tn i s.heap->Q (.ref it) s->wpAny (model P w) A (pyIter (.ref it)) Q E s
abbrev TI:=St->Hp->(It->Hp->Prop)->Prop
def PIE(X:Cx)(pins:List (Addr×Obj))(σ:St)(tg:Expr)(R:It->Hp->Prop)(itv:Value)(s2:Shared):Prop :=
 ∃(it:Addr) (fp:List Addr) (tn:Nat->Heap->Prop) (J:It) (H':Hp),itv=.ref it/\Inv X pins σ H' s2/\Turn X.prog X.w X.K tg J fp it tn/\tn 0 s2.heap/\(∀b∈fp,kZ X pins H' b)/\R J H'
def PI(X:Cx)(tg iter:Expr)(wi:TI):Prop :=
 ∀(pins:List (Addr×Obj)) (s:Shared) (σ:St) (H:Hp) (R:It->Hp->Prop),Inv X pins σ H s->wi σ H R ->
  wpAny (model X.prog X.w) X.A (eval iter X.env) (λv s1=>wpAny (model X.prog X.w) X.A (pyIter v) (PIE X pins σ tg R) X.xe s1) X.xe s
theorem se {M : Model} {A : Around} {E : Value -> Shared -> Prop} {s : Shared} {tg : Expr} {it : Addr} {u : Value} {o : Obj} {n : String} {vs : Array Value} {Q : Unit -> Shared -> Prop} (ho : s.heap.get? it = some o) (hc : o.cls = .type n) (hd : o.data = .fields vs)
    (hn : ["enumerate", "zip", "dict_itemiterator", "dict_reverseitemiterator", "odict_iterator", "itertools.zip_longest", "itertools.pairwise"].contains n = false) (hQ : Q () s) : wpAny M A (letOwnedTupleGo tg (.ref it) u) Q E s := by
  unfold letOwnedTupleGo
  cases tg <;> first
    | exact wpAny_pure hQ
    | (cases u <;> first
        | exact wpAny_pure hQ
        | (refine wpAny_bind (wpAny_load ho ?_)
           rw [hc, hd]
           show wpAny M A (if (["enumerate", "zip", "dict_itemiterator", "dict_reverseitemiterator", "odict_iterator", "itertools.zip_longest", "itertools.pairwise"].contains n && vs[0]? == some (rawInt _)) = true then _ else _) Q E s
           rw [if_neg (by intro h; rw [hn, Bool.false_and] at h; cases h)]
           exact wpAny_pure hQ))
def Itl(K:PySem.W.Frag)(a:Addr):It :=
 ⟨λi H=>∃xs x,SqL K H a xs/\xs[i]?=some x,λi H x H'=>H'=H/\∀xs,SqL K H a xs->xs[i]?=some x,λi H=>∃xs,SqL K H a xs/\xs.length≤i⟩
def Itt(K:PySem.W.Frag)(a:Addr):It :=
 ⟨λi H=>∃xs x,SqT K H a xs/\xs[i]?=some x,λi H x H'=>H'=H/\∀xs,SqT K H a xs->xs[i]?=some x,λi H=>∃xs,SqT K H a xs/\xs.length≤i⟩
def Itr(lo:Int)(n:Nat):It:=⟨λi _=>i<n,λi H x H'=>H'=H/\x=.int (lo+i),λi _=>n≤i⟩
theorem xZ{P:Program}{w:World}{K:PySem.W.Frag}{tg:Expr}(a it:Addr):Turn P w K tg (Itl K a) [it] it (λi h=>h.IsListIter it a i) where
 mem:=by simp
 obj:=λi h st b hb=>by
  have e:b=it:=by simpa using hb
  subst e
  obtain⟨o,e,c,d⟩:=st
  exact⟨o,e,λv z=>by rw[d] at z;cases z⟩
 keep:=λi h h' st k=>st.at λo e=>k it (by simp) o e
 item:=by
  intro X hP hw hK hc i pins s σ H E I hf st hg
  subst hP hw hK
  obtain⟨xs,x,hq,hx⟩:=hg
  obtain⟨its,rv,p,hz⟩:=I.list hq
  obtain⟨u,hu,ru⟩:=rv.get hx
  obtain⟨f0,f1,f2,f3,f4,f5⟩:=hf it (by simp)
  refine wpAny_pyNext_list_item st p.isList (x:=u) (by simpa using hu) λh' st' sb=>?_
  have I1:Inv X pins σ H { s with heap:=h' }:=I.turned (t':=s.toks) (λb o hb e=>(sb.2 b hb).trans e) f0 f1 f3 f4 f5
  obtain⟨o,e,c,d⟩:=id st'
  exact⟨u,rfl,se (s:={ s with heap:=h' }) e c d (by decide) ⟨x,H,I1,ru,⟨rfl,λys hy=>by rw[I.AM hy hq];exact hx⟩,st',λb hb=>(hf b hb).1⟩⟩
 done:=by
  intro X hP hw hK hc i pins s σ H E I hf st hg
  subst hP hw hK
  obtain⟨xs,hq,hx⟩:=hg
  obtain⟨its,rv,p,hz⟩:=I.list hq
  obtain⟨f0,f1,f2,f3,f4,f5⟩:=hf it (by simp)
  have hl:=rv.length
  exact wpAny_pyNext_list_end (I.ok.hd hc) st p.isList (by simp;lia) λh' eb=>⟨rfl,I.turned (t':=s.toks) (λb o hb e=>eb b o hb e) f0 f1 f3 f4 f5⟩
 self:=λ_ _ _ _ _ st h=>wpAny_pyIter_listiter st h
theorem uO{P:Program}{w:World}{K:PySem.W.Frag}{tg:Expr}(a it:Addr):Turn P w K tg (Itt K a) [it] it (λi h=>h.IsTupleIter it a i) where
 mem:=by simp
 obj:=λi h st b hb=>by
  have e:b=it:=by simpa using hb
  subst e
  obtain⟨o,e,c,d⟩:=st
  exact⟨o,e,λv z=>by rw[d] at z;cases z⟩
 keep:=λi h h' st k=>st.at λo e=>k it (by simp) o e
 item:=by
  intro X hP hw hK hc i pins s σ H E I hf st hg
  subst hP hw hK
  obtain⟨xs,x,hq,hx⟩:=hg
  obtain⟨its,rv,p,hz⟩:=I.tuple hq
  obtain⟨u,hu,ru⟩:=rv.get hx
  obtain⟨f0,f1,f2,f3,f4,f5⟩:=hf it (by simp)
  refine wpAny_pyNext_tuple_item st (show s.heap.IsTuple a its.toArray from p) (x:=u) (by simpa using hu) λh' st' sb=>?_
  have I1:Inv X pins σ H { s with heap:=h' }:=I.turned (t':=s.toks) (λb o hb e=>(sb.2 b hb).trans e) f0 f1 f3 f4 f5
  obtain⟨o,e,c,d⟩:=id st'
  exact⟨u,rfl,se (s:={ s with heap:=h' }) e c d (by decide) ⟨x,H,I1,ru,⟨rfl,λys hy=>by rw[I.xX hy hq];exact hx⟩,st',λb hb=>(hf b hb).1⟩⟩
 done:=by
  intro X hP hw hK hc i pins s σ H E I hf st hg
  subst hP hw hK
  obtain⟨xs,hq,hx⟩:=hg
  obtain⟨its,rv,p,hz⟩:=I.tuple hq
  obtain⟨f0,f1,f2,f3,f4,f5⟩:=hf it (by simp)
  have hl:=rv.length
  exact wpAny_pyNext_tuple_end (I.ok.hd hc) st (show s.heap.IsTuple a its.toArray from p) (by simp;lia) λh' eb=>⟨rfl,I.turned (t':=s.toks) (λb o hb e=>eb b o hb e) f0 f1 f3 f4 f5⟩
 self:=λ_ _ _ _ _ st h=>wpAny_pyIter_tupleiter st h
theorem uP{P:Program}{w:World}{K:PySem.W.Frag}{tg:Expr}(it:Addr)(lo:Int)(n:Nat):Turn P w K tg (Itr lo n) [it] it (λi h=>IsRangeIter h it (lo+(i:Nat)*1) ((n:Int)-(i:Nat)) 1) where
 mem:=by simp
 obj:=λi h st b hb=>by
  have e:b=it:=by simpa using hb
  subst e
  exact⟨_,st,λv z=>by
   have z':Data.fields _=Data.cell v:=z
   cases z'⟩
 keep:=λi h h' st k=>k it (by simp) _ st
 item:=by
  intro X hP hw hK hc i pins s σ H E I hf st hg
  subst hP hw hK
  obtain⟨f0,f1,f2,f3,f4,f5⟩:=hf it (by simp)
  have W:=Walks.range (prog:=X.prog) (w:=X.w) (I.ok.hd hc) it lo 1 n
  refine W.item i s _ _ hg st λv h' tk hv st' kk=>?_
  obtain⟨t,rfl⟩:=hv
  have I1:Inv X pins σ H { s with heap:=h',toks:=tk }:=I.turned (λb o hb e=>kk b o (by simpa using hb) e) f0 f1 f3 f4 f5
  refine⟨_,rfl,se (s:={ s with heap:=h',toks:=tk }) (n:="range_iterator") st' rfl rfl (by decide) ⟨.int (lo+i),H,I1,⟨t,?_⟩,⟨rfl,rfl⟩,st',λb hb=>(hf b hb).1⟩⟩
  rw[Int.mul_one]
 done:=by
  intro X hP hw hK hc i pins s σ H E I hf st hg
  subst hP hw hK
  obtain⟨f0,f1,f2,f3,f4,f5⟩:=hf it (by simp)
  exact wpAny_pyNext_range_end (I.ok.hd hc) st (by have:n≤i:=hg;lia) λh' eb=>⟨rfl,I.turned (t':=s.toks) (λb o hb e=>eb b o hb e) f0 f1 f3 f4 f5⟩
 self:=λ_ _ _ _ _ st h=>wpAny_pyIter_rangeiter st h
section
variable{X:Cx}{tg:Expr}
theorem sf{pins:List (Addr×Obj)}{σ:St}{H:Hp}{s:Shared}{R:It->Hp->Prop}{E:Value->Shared->Prop}{lo hi:Int}{t u v:Tok}{tk:Nat}(I:Inv X pins σ H s)(h1:-(2 ^ 62)≤lo)(h2:lo<2 ^ 62)(h3:-(2 ^ 62)≤hi)(h4:hi<2 ^ 62)
  (q:R (Itr lo (hi-lo).toNat) H):wpAny (model X.prog X.w) X.A (pyIter (.ref s.heap.objs.size)) (PIE X pins σ tg R) E { s with heap:=s.heap.push { cls:=.type "range",data:=.fields #[.int lo t,.int hi u,.int 1 v] },toks:=tk }:=by
 refine wpAny_pyIter_range (IsRange.new ..) (small_one h1 h2 h3 h4) ?_
 have I1:Inv X pins σ H { s with heap:=s.heap.push { cls:=.type "range",data:=.fields #[.int lo t,.int hi u,.int 1 v] },toks:=tk }:=I.kept λb o e=>Heap.get?_push_of_some _ e
 refine⟨(s.heap.push { cls:=.type "range",data:=.fields #[.int lo t,.int hi u,.int 1 v] }).objs.size,[(s.heap.push { cls:=.type "range",data:=.fields #[.int lo t,.int hi u,.int 1 v] }).objs.size],_,_,H,rfl,
  I1.kept (t':=tk) λb o e=>Heap.get?_push_of_some _ e,uP _ lo (hi-lo).toNat,?_,λb hb=>?_,q⟩
 ·have e1:lo+((0:Nat):Int)*1=lo:=by simp
  have e2:(((hi-lo).toNat:Nat):Int)-((0:Nat):Int)=Builtin.Range.rangeSize lo hi 1:=by rw[rangeSize_one];split<;>lia
  show IsRangeIter _ _ (lo+((0:Nat):Int)*1) ((((hi-lo).toNat:Nat):Int)-((0:Nat):Int)) 1
  rw[e1,e2]
  exact Heap.get?_push_size _ rfl
 ·have e:b=(s.heap.push { cls:=.type "range",data:=.fields #[.int lo t,.int hi u,.int 1 v] }).objs.size:=by simpa using hb
  subst e
  exact I1.xY (Nat.le_refl _) (I1.hok.fresh (Nat.le_refl _))
def KZ(ta:TA):TI:=λσ H R=>ta σ H λvs H1=>∃j:Int,vs=[.int j]/\-(2 ^ 62)≤j/\j<2 ^ 62/\R (Itr 0 j.toNat) H1
def K0(ta:TA):TI:=λσ H R=>ta σ H λvs H1=>∃i j:Int,vs=[.int i,.int j]/\(-(2 ^ 62)≤i/\i<2 ^ 62/\-(2 ^ 62)≤j/\j<2 ^ 62)/\R (Itr i (j-i).toNat) H1
theorem x_{a:Expr}{ta:TA}{p pos:Pos}(hg:Gl X "range")(hm:X.mg "range"=none)(ha:PA X [a] ta)(hs:starEach [a] X.env=[(false,eval a X.env)]:=by rfl):PI X tg (.Call (.Name "range" p) [a] [] pos) (KZ ta):=by
 intro pins s σ H R I h
 refine Call_ (mI I hg hm boot_range (PyProof.Rows.callWith_type1 (thn (ha pos pins s σ H _ I h) λus s1 ao=>?_) hs rfl))
 obtain⟨vs,H1,I1,r1,q1⟩:=ao
 obtain⟨j,e,q1,q2,q⟩:=q1
 subst e
 cases r1 with
 | cons r rr =>
  cases rr
  obtain⟨t,rfl⟩:=r
  exact call_range_1 (sf I1 (by lia) (by lia) q1 q2 (by simpa using q))
theorem ya{a b:Expr}{ta:TA}{p pos:Pos}(hg:Gl X "range")(hm:X.mg "range"=none)(ha:PA X [a,b] ta)(hs:starEach [a,b] X.env=[(false,eval a X.env),(false,eval b X.env)]:=by rfl)(hs2:starEach [b] X.env=[(false,eval b X.env)]:=by rfl) :
  PI X tg (.Call (.Name "range" p) [a,b] [] pos) (K0 ta):=by
 intro pins s σ H R I h
 refine Call_ (mI I hg hm boot_range (PyProof.Rows.callWith_type1 (thn (ha pos pins s σ H _ I h) λus s1 ao=>?_) (by rw[hs,hs2]) (by rw[hs2];rfl)))
 obtain⟨vs,H1,I1,r1,q1⟩:=ao
 obtain⟨i,j,e,⟨q1,q2,q3,q4⟩,q⟩:=q1
 subst e
 cases r1 with
 | cons r rr =>
  cases rr with
  | cons r' rr =>
   cases rr
   obtain⟨t,rfl⟩:=r
   obtain⟨t',rfl⟩:=r'
   exact call_range_2 (sf I1 q1 q2 q3 q4 q)
def M1(wi:TI)(g:TG)(tb:TS):TS:=λD σ H=>wi σ H λJ H1=>∃W:Nat->Nat->St->Hp->Prop,(∃m,W 0 m σ H1)/\∀i m σ H,W i m σ H ->
 (J.stop i H/\D.nx σ H)∨(J.go i H/\∃N:St->Hp->Prop,(∀σ' H',N σ' H'->∃m',m'<m/\W (i+1) m' σ' H')/\∀x H',J.yld i H x H'->g x σ H' λσ2 H2=>tb { D with nx:=N,ct:=N,bk:=D.nx } σ2 H2)
def mJ(fp:List Addr)(h:Heap):List (Addr×Obj):=fp.filterMap λb=>(h.get? b).map λo=>(b,o)
theorem gx{fp:List Addr}{h:Heap}{b:Addr}{o:Obj}(hb:b∈fp)(e:h.get? b=some o):(b,o)∈mJ fp h:=List.mem_filterMap.mpr ⟨b,hb,by rw[e];rfl⟩
theorem yb{fp:List Addr}{h:Heap}{p:Addr×Obj}(hp:p∈mJ fp h):p.1∈fp/\h.get? p.1=some p.2:=by
 obtain⟨b,hb,e⟩:=List.mem_filterMap.mp hp
 cases q:h.get? b with
 | none=>rw[q] at e;cases e
 | some o =>
  rw[q] at e
  have e':(b,o)=p:=Option.some.inj e
  subst e'
  exact⟨hb,q⟩
theorem Inv.pinned{pins:List (Addr×Obj)}{σ:St}{H:Hp}{s:Shared}{fp:List Addr}(I:Inv X pins σ H s)(hf:∀b∈fp,kZ X pins H b)(ho:∀b∈fp,∃o,s.heap.get? b=some o/\∀v,o.data≠.cell v):Inv X (pins++mJ fp s.heap) σ H s :=
 I.wC λp hp=>(List.mem_append.mp hp).elim (λz=>I.pin p (List.mem_append_right _ z)) λz=>by
  obtain⟨hb,e⟩:=yb z
  obtain⟨f0,f1,f2,_⟩:=hf p.1 hb
  obtain⟨o,e',d⟩:=ho p.1 hb
  rw[e] at e';cases e'
  exact⟨e,f0,f1,f2,d⟩
theorem Inv.j7{pins pl:List (Addr×Obj)}{σ:St}{H:Hp}{s:Shared}(I:Inv X (pins++pl) σ H s):Inv X pins σ H s:=I.wC λp hp=>I.pin p (List.mem_append_right _ (List.mem_append_left _ hp))
theorem IE{iter:Expr}{body:List Stmt}{wi:TI}{g:TG}{tb:TS}{pos:Pos}(hp:PassesOwn (model X.prog X.w) X.A X.env X.xe)(hc:X.calm=true)(hi:PI X tg iter wi)(hg:PG X tg g)(hb:PSs X body tb)
  (hs:∀x,foldedSetIterable iter X.env x=pure x:=by intro _;rfl):PS X (.For tg iter body [] pos) (M1 wi g tb):=by
 intro pins s σ H D I h
 refine wpAny_For (thn (hi pins s σ H _ I h) λv s1 h1=>thn h1 λitv s2 h2=>?_) hs
 obtain⟨it,fp,tn,J,H2,e,I2,T,st2,f2,W,⟨m0,w0⟩,turn⟩:=h2
 subst e
 have uQ:∀{H':Hp},(∀b∈fp,H' b=none)->∀b∈fp,kZ X pins H' b:=λhn b hb=>⟨hn b hb,(f2 b hb).2⟩
 refine codeAny_forLoop_any (λn s'=>∃i σ' H',Inv X pins σ' H' s'/\tn i s'.heap/\(∀b∈fp,H' b=none)/\W i n σ' H') ?_ m0 ⟨0,σ,H2,I2,st2,λb hb=>(f2 b hb).1,w0⟩
 rintro n s3 ⟨i,σ3,H3,I3,st3,fr3,w3⟩
 rcases turn i n σ3 H3 w3 with ⟨stop,qn⟩|⟨go,N,hN,step⟩
 ·refine wpAny_passesOwn hp (thn (T.done X rfl rfl rfl hc i pins s3 σ3 H3 X.xe I3 (uQ fr3) st3 stop) λr s4 ⟨hr,I4⟩=>?_)
  subst hr
  exact wpAny_execs_nil ⟨σ3,H3,I4,qn⟩
 ·refine wpAny_passesOwn hp (thn (T.item X rfl rfl rfl hc i pins s3 σ3 H3 X.xe I3 (uQ fr3) st3 go) λr s4 ⟨u,hr,h4⟩=>?_)
  subst hr
  refine wpAny_passesOwn hp (thn h4 λ_ s5 ao=>?_)
  obtain⟨x,H5,I5,r5,y5,st5,fr5⟩:=ao
  have I5':=I5.pinned (uQ fr5) (T.obj _ _ st5)
  refine wpAny_passesOwn hp (thn (hg _ s5 σ3 H5 x u _ I5' r5 (step x H5 y5)) λ_ s6 dt=>?_)
  obtain⟨σ6,H6,I6,q6⟩:=dt
  refine wpAny_passesOwn hp (thn (hb _ s6 σ6 H6 _ I6 q6) λf s7 q7=>?_)
  have again:∀{σ7:St}{H7:Hp},Inv X (pins++mJ fp s5.heap) σ7 H7 s7->N σ7 H7->∃m,m<n/\∃i σ' H',Inv X pins σ' H' s7/\tn i s7.heap/\(∀b∈fp,H' b=none)/\W i m σ' H':=λ{σ7 H7} I7 n7=>by
   obtain⟨m',hm,w7⟩:=hN σ7 H7 n7
   refine⟨m',hm,i+1,σ7,H7,I7.j7,T.keep _ _ _ st5 λb hb o e=>(I7.pin (b,o) (List.mem_append_right _ (List.mem_append_right _ (gx hb e)))).1,λb hb=>?_,w7⟩
   obtain⟨o,e,d⟩:=T.obj _ _ st5 b hb
   exact(I7.pin (b,o) (List.mem_append_right _ (List.mem_append_right _ (gx hb e)))).2.1
  cases f with
  | next=>obtain⟨σ7,H7,I7,n7⟩:=q7;exact again I7 n7
  | cont=>obtain⟨σ7,H7,I7,n7⟩:=q7;exact again I7 n7
  | brk=>obtain⟨σ7,H7,I7,q7⟩:=q7;exact⟨σ7,H7,I7.j7,q7⟩
  | ret v=>obtain⟨x7,σ7,H7,I7,r7,q7⟩:=q7;exact⟨x7,σ7,H7,I7.j7,r7,q7⟩
end
abbrev R2:=V->V->Hp->VK->Prop
def OpR(X:Cx)(f:Value->Value->Sem Value)(r:R2):Prop :=
 ∀(pins:List (Addr×Obj)) (s:Shared) (σ:St) (H:Hp) (x y:V) (v u:Value) (Q:VK),Inv X pins σ H s->RelV x v->RelV y u->r x y H Q ->
  wpAny (model X.prog X.w) X.A (f v u) (EP X pins σ Q) X.xe s
def dg(X:Cx)(f:Value)(r:List V->Hp->VK->Prop):Prop :=
 ∀(pins:List (Addr×Obj)) (s:Shared) (σ:St) (H:Hp) (xs:List V) (us:List Value) (Q:VK),Inv X pins σ H s->Vals xs us->r xs H Q ->
  wpAny (model X.prog X.w) X.A (call f us) (EP X pins σ Q) X.xe s
def tOp(r:R2)(ta tb:TE):TE:=λσ H Q=>ta σ H λx H1=>tb σ H1 λy H2=>r x y H2 Q
def tUn(r:V->Hp->VK->Prop)(ta:TE):TE:=λσ H Q=>ta σ H λx H1=>r x H1 Q
def rI(C:Int->Int->Prop)(g:Int->Int->V):R2:=λx y H Q=>∃i j,x=.int i/\y=.int j/\C i j/\Q (g i j) H
def rI0(g:Int->Int->V):R2:=λx y H Q=>∃i j,x=.int i/\y=.int j/\Q (g i j) H
section
variable{X:Cx}{a b c:Expr}{ta tb tc:TE}{pos:Pos}
theorem IF(ha:PE X a ta)(hb:PE X b tb){pins:List (Addr×Obj)}{s:Shared}{σ:St}{H:Hp}{R:V->V->Hp->Prop}(I:Inv X pins σ H s)
  (h:ta σ H λx H1=>tb σ H1 λy H2=>R x y H2) {Q:Value->Shared->Prop}{f:Value->Value->Sem Value}
  (hf:∀v u s2 x y H2,Inv X pins σ H2 s2->RelV x v->RelV y u->R x y H2->wpAny (model X.prog X.w) X.A (f v u) Q X.xe s2) :
  wpAny (model X.prog X.w) X.A (eval a X.env) (λv s₁=>wpAny (model X.prog X.w) X.A (eval b X.env) (λu s₂=>wpAny (model X.prog X.w) X.A (f v u) Q X.xe s₂) X.xe s₁) X.xe s:=by
 refine thn (ha pins s σ H _ I h) λv s1 ao=>?_
 obtain⟨x,H1,I1,r1,q1⟩:=ao
 refine thn (hb pins s1 σ H1 _ I1 q1) λu s2 dt=>?_
 obtain⟨y,H2,I2,r2,q2⟩:=dt
 exact hf v u s2 x y H2 I2 r1 r2 q2
theorem AS{op:Operator}{r:R2}(ho:OpR X (binaryOp op) r)(ha:PE X a ta)(hb:PE X b tb):PE X (.BinOp a op b pos) (tOp r ta tb):=by
 intro pins s σ H Q I h
 exact wpAny_BinOp (IF ha hb I h λv u s2 x y H2 I2 rx ry q=>ho pins s2 σ H2 x y v u Q I2 rx ry q)
theorem opI{f:Value->Value->Sem Value}{C:Int->Int->Prop}{g:Int->Int->Int}
  (rule:∀(i j:Int) (t u:Tok) (s:Shared) (Q:Value->Shared->Prop) (E:Value->Shared->Prop),C i j->Q (.int (g i j) s.toks) { s with toks:=s.toks+1 }->wpAny (model X.prog X.w) X.A (f (.int i t) (.int j u)) Q E s) :
  OpR X f (rI C λi j=>.int (g i j)):=by
 intro pins s σ H x y v u Q I rx ry h
 obtain⟨i,j,rfl,rfl,hc,q⟩:=h
 obtain⟨t,rfl⟩:=rx
 obtain⟨t',rfl⟩:=ry
 exact rule i j t t' s _ _ hc ⟨.int (g i j),H,I.tok _,⟨_,rfl⟩,q⟩
theorem K1{f:Value->Value->Sem Value}{g:Int->Int->Int}
  (rule:∀(i j:Int) (t u:Tok) (s:Shared) (Q:Value->Shared->Prop) (E:Value->Shared->Prop),Q (.int (g i j) s.toks) { s with toks:=s.toks+1 }->wpAny (model X.prog X.w) X.A (f (.int i t) (.int j u)) Q E s) :
  OpR X f (rI0 λi j=>.int (g i j)):=by
 intro pins s σ H x y v u Q I rx ry h
 obtain⟨i,j,rfl,rfl,q⟩:=h
 obtain⟨t,rfl⟩:=rx
 obtain⟨t',rfl⟩:=ry
 exact rule i j t t' s _ _ ⟨.int (g i j),H,I.tok _,⟨_,rfl⟩,q⟩
theorem IG{f:Value->Value->Sem Value}{g:Int->Int->Bool}
  (rule:∀(i j:Int) (t u:Tok) (s:Shared) (Q:Value->Shared->Prop) (E:Value->Shared->Prop),Q (.bool (g i j)) s->wpAny (model X.prog X.w) X.A (f (.int i t) (.int j u)) Q E s) :
  OpR X f (rI0 λi j=>.bl (g i j)):=by
 intro pins s σ H x y v u Q I rx ry h
 obtain⟨i,j,rfl,rfl,q⟩:=h
 obtain⟨t,rfl⟩:=rx
 obtain⟨t',rfl⟩:=ry
 exact rule i j t t' s _ _ ⟨.bl (g i j),H,I,rfl,q⟩
def IH(i j:Int):Prop:=0<j/\j<1073741824
def AU(i j:Int):Prop:=(-(2 ^ 64)<i/\i<2 ^ 64)∨(-(2 ^ 64)<j/\j<2 ^ 64)
theorem AU.ok{i j:Int}(h:AU i j):IntMulOk i j:=by
 rcases h with ⟨h1,h2⟩|⟨h1,h2⟩
 ·exact .of_left (intBits_le_64 h1 h2)
 ·exact .of_right (intBits_le_64 h1 h2)
theorem II:OpR X (binaryOp .Add) (rI0 λi j=>.int (i+j)):=K1 λ_ _ _ _ _ _ _ q=>add_int q
theorem IJ:OpR X (binaryOp .Sub) (rI0 λi j=>.int (i-j)):=K1 λ_ _ _ _ _ _ _ q=>sub_int q
theorem IK:OpR X (binaryOp .Mult) (rI AU λi j=>.int (i*j)):=opI λ_ _ _ _ _ _ _ hc q=>mul_int q hc.ok
theorem EY:OpR X (binaryOp .FloorDiv) (rI IH λi j=>.int (i / j)):=opI λi j _ _ _ _ _ hc q=>by
 have h1:(0:Int)<j:=hc.1
 have h2:j<1073741824:=hc.2
 exact floordiv_int (by lia) (by rw[Int.fdiv_eq_ediv_of_nonneg i (by lia)];exact q) (.inl (PyProof.noPylong_small (by lia)))
theorem IL:OpR X (binaryOp .Mod) (rI (λ_ j=>0<j) λi j=>.int (i%j)):=opI λi j _ _ _ _ _ hc q=>by
 have h1:(0:Int)<j:=hc
 exact mod_int' (by lia) (by rw[Int.fmod_eq_emod_of_nonneg i (by lia)];exact q)
end
def K2:V->V->Bool
 | .non,.non=>true|.non,.int _=>true|.int _,.non=>true|.non,.bl _=>true|.bl _,.non=>true|.non,.str _=>true|.str _,.non=>true
 | .int _,.int _=>true|.bl _,.bl _=>true|.str _,.str _=>true|.byt _,.byt _=>true
 | .int _,.str _=>true|.str _,.int _=>true|.bl _,.str _=>true|.str _,.bl _=>true
 | _,_=>false
def rEq:R2:=λx y H Q=>K2 x y=true/\Q (.bl (decide (x=y))) H
def rNe:R2:=λx y H Q=>K2 x y=true/\Q (.bl (!decide (x=y))) H
theorem wH{i j:Int}:decide (V.int i=V.int j)=(i==j):=by
 rw[Bool.eq_iff_iff]
 simp
theorem AV{i j:Bool}:decide (V.bl i=V.bl j)=(i==j):=by
 rw[Bool.eq_iff_iff]
 simp
theorem mf{i j:Str}:decide (V.str i=V.str j)=(i==j):=by
 rw[Bool.eq_iff_iff]
 simp
theorem wI{i j:Array UInt8}:decide (V.byt i=V.byt j)=(i.toList==j.toList):=by
 rw[Bool.eq_iff_iff]
 cases i
 cases j
 simp
section
variable{X:Cx}{a b c:Expr}{ta tb tc:TE}{pos:Pos}
theorem aW{pins:List (Addr×Obj)}{σ:St}{H:Hp}{s:Shared}{Q:VK}{k k':Bool}(I:Inv X pins σ H s)(q:Q (.bl k) H)(e:k=k'):EP X pins σ Q (.bool k') s:=by
 subst e
 exact⟨.bl k,H,I,rfl,q⟩
theorem Hz:OpR X (compareOp .Eq) rEq:=by
 intro pins s σ H x y v u Q I rx ry h
 obtain⟨hs,q⟩:=h
 cases x with
 | non =>
  cases rx
  cases y with
  | non=>cases ry;exact PySem.EqNone.eq_none_none (aW I q (by simp))
  | bl j=>cases ry;exact PySem.EqNone.eq_none_bool (aW I q (by simp))
  | int j=>obtain⟨t',rfl⟩:=ry;exact PySem.EqNone.eq_none_int (aW I q (by simp))
  | str j=>obtain⟨t',rfl⟩:=ry;exact PySem.EqNone.eq_none_str (aW I q (by simp))
  | _=>exact absurd (show false=true from hs) Bool.false_ne_true
 | bl i =>
  cases rx
  cases y with
  | non=>cases ry;exact PySem.EqNone.eq_bool_none (aW I q (by simp))
  | bl j=>cases ry;exact eq_bool (aW I q AV)
  | str j=>obtain⟨t',rfl⟩:=ry;exact PySem.EqMixed.eq_bool_str (aW I q (by simp))
  | _=>exact absurd (show false=true from hs) Bool.false_ne_true
 | int i =>
  obtain⟨t,rfl⟩:=rx
  cases y with
  | non=>cases ry;exact PySem.EqNone.eq_int_none (aW I q (by simp))
  | int j=>obtain⟨t',rfl⟩:=ry;exact eq_int (aW I q wH)
  | str j=>obtain⟨t',rfl⟩:=ry;exact PySem.EqMixed.eq_int_str (aW I q (by simp))
  | _=>exact absurd (show false=true from hs) Bool.false_ne_true
 | str i =>
  obtain⟨t,rfl⟩:=rx
  cases y with
  | non=>cases ry;exact PySem.EqNone.eq_str_none (aW I q (by simp))
  | bl j=>cases ry;exact PySem.EqMixed.eq_str_bool (aW I q (by simp))
  | int j=>obtain⟨t',rfl⟩:=ry;exact PySem.EqMixed.eq_str_int (aW I q (by simp))
  | str j=>obtain⟨t',rfl⟩:=ry;exact eq_str (aW I q mf)
  | _=>exact absurd (show false=true from hs) Bool.false_ne_true
 | byt i =>
  obtain⟨t,rfl⟩:=rx
  cases y with
  | byt j=>obtain⟨t',rfl⟩:=ry;exact PySem.W.eq_bytes (aW I q wI)
  | _=>exact absurd (show false=true from hs) Bool.false_ne_true
 | _=>cases y<;>exact absurd (show false=true from hs) Bool.false_ne_true
theorem K3:OpR X (compareOp .NotEq) rNe:=by
 intro pins s σ H x y v u Q I rx ry h
 obtain⟨hs,q⟩:=h
 cases x with
 | non =>
  cases rx
  cases y with
  | non=>cases ry;exact PySem.EqNone.ne_none_none (aW I q (by simp))
  | bl j=>cases ry;exact PySem.EqNone.ne_none_bool (aW I q (by simp))
  | int j=>obtain⟨t',rfl⟩:=ry;exact PySem.EqNone.ne_none_int (aW I q (by simp))
  | str j=>obtain⟨t',rfl⟩:=ry;exact PySem.EqNone.ne_none_str (aW I q (by simp))
  | _=>exact absurd (show false=true from hs) Bool.false_ne_true
 | bl i =>
  cases rx
  cases y with
  | non=>cases ry;exact PySem.EqNone.ne_bool_none (aW I q (by simp))
  | bl j=>cases ry;exact ne_bool (aW I q (congrArg not AV))
  | str j=>obtain⟨t',rfl⟩:=ry;exact PySem.EqMixed.ne_bool_str (aW I q (by simp))
  | _=>exact absurd (show false=true from hs) Bool.false_ne_true
 | int i =>
  obtain⟨t,rfl⟩:=rx
  cases y with
  | non=>cases ry;exact PySem.EqNone.ne_int_none (aW I q (by simp))
  | int j=>obtain⟨t',rfl⟩:=ry;exact ne_int (aW I q (congrArg not wH))
  | str j=>obtain⟨t',rfl⟩:=ry;exact PySem.EqMixed.ne_int_str (aW I q (by simp))
  | _=>exact absurd (show false=true from hs) Bool.false_ne_true
 | str i =>
  obtain⟨t,rfl⟩:=rx
  cases y with
  | non=>cases ry;exact PySem.EqNone.ne_str_none (aW I q (by simp))
  | bl j=>cases ry;exact PySem.EqMixed.ne_str_bool (aW I q (by simp))
  | int j=>obtain⟨t',rfl⟩:=ry;exact PySem.EqMixed.ne_str_int (aW I q (by simp))
  | str j=>obtain⟨t',rfl⟩:=ry;exact ne_str (aW I q (congrArg not mf))
  | _=>exact absurd (show false=true from hs) Bool.false_ne_true
 | byt i =>
  obtain⟨t,rfl⟩:=rx
  cases y with
  | byt j=>obtain⟨t',rfl⟩:=ry;exact PySem.W.ne_bytes (aW I q (congrArg not wI))
  | _=>exact absurd (show false=true from hs) Bool.false_ne_true
 | _=>cases y<;>exact absurd (show false=true from hs) Bool.false_ne_true
theorem HA:OpR X (compareOp .Lt) (rI0 λi j=>.bl (decide (i<j))):=IG λ_ _ _ _ _ _ _ q=>lt_int q
theorem wJ:OpR X (compareOp .LtE) (rI0 λi j=>.bl (decide (i≤j))):=IG λ_ _ _ _ _ _ _ q=>le_int q
theorem K4:OpR X (compareOp .Gt) (rI0 λi j=>.bl (decide (j<i))):=IG λ_ _ _ _ _ _ _ q=>gt_int q
theorem o9:OpR X (compareOp .In) (λx y H Q=>∃i j,x=.str i/\y=.str j/\Q (.bl (!(Builtin.Str.occurrences j i 0 j.length 1).isEmpty)) H):=by
 intro pins s σ H x y v u Q I rx ry h
 obtain⟨i,j,rfl,rfl,q⟩:=h
 obtain⟨t,rfl⟩:=rx
 obtain⟨t',rfl⟩:=ry
 exact in_str (aW I q rfl)
theorem AW:OpR X (compareOp .Is) (λx y H Q=>y=.non/\Q (.bl (decide (x=.non))) H):=by
 intro pins s σ H x y v u Q I rx ry h
 obtain⟨rfl,q⟩:=h
 cases ry
 refine is_none_gen (aW I q ?_)
 cases x<;>first
  | (cases rx;rfl)
  | (obtain⟨t,rfl⟩:=rx;rfl)
theorem qf:OpR X (compareOp .NotIn) (λx y H Q=>∃i j,x=.str i/\y=.str j/\Q (.bl (!(!(Builtin.Str.occurrences j i 0 j.length 1).isEmpty))) H):=by
 intro pins s σ H x y v u Q I rx ry h
 obtain⟨i,j,rfl,rfl,q⟩:=h
 obtain⟨t,rfl⟩:=rx
 obtain⟨t',rfl⟩:=ry
 exact notIn_str (aW I q rfl)
theorem OpR.or{f:Value->Value->Sem Value}{r r':R2}(h:OpR X f r)(h':OpR X f r'):OpR X f (λx y H Q=>r x y H Q∨r' x y H Q):=by
 intro pins s σ H x y v u Q I rx ry q
 rcases q with q|q
 ·exact h pins s σ H x y v u Q I rx ry q
 ·exact h' pins s σ H x y v u Q I rx ry q
theorem fV(b:Expr){op:CmpOp}(h:op≠.In:=by decide)(h2:op≠.NotIn:=by decide):behindInMarks op b=false:=by
 have e1:(op==CmpOp.In)=false:=by cases op<;>first|rfl|exact absurd rfl h
 have e2:(op==CmpOp.NotIn)=false:=by cases op<;>first|rfl|exact absurd rfl h2
 cases b<;>simp[behindInMarks,e1,e2]
theorem EZ{op:CmpOp}{r:R2}(ho:OpR X (compareOp op) r)(ha:PE X a ta)(hb:PE X b tb)(hm:behindInMarks op b=false):PE X (.Compare a [op] [b] pos) (tOp r ta tb):=by
 intro pins s σ H Q I h
 exact wpAny_Compare1 (IF ha hb I h λv u s2 x y H2 I2 rx ry q=>ho pins s2 σ H2 x y v u Q I2 rx ry q) hm
def K5(t:TE):TT:=λσ H Q=>t σ H λx H'=>∃k,x=.bl k/\Q k H'
theorem E1{op:CmpOp}{r:R2}(ho:OpR X (compareOp op) r)(ha:PE X a ta)(hb:PE X b tb)(hm:behindInMarks op b=false):PT X (.Compare a [op] [b] pos) (K5 (tOp r ta tb)):=by
 intro pins s σ H Q I h
 refine wpAny_isTrue_Compare1 (thn (ha pins s σ H _ I h) λv s1 ⟨x,H1,I1,r1,q1⟩=>thn (hb pins s1 σ H1 _ I1 q1) λu s2 ⟨y,H2,I2,r2,q2⟩ =>
  thn (ho pins s2 σ H2 x y v u _ I2 r1 r2 q2) λc s3 ⟨z,H3,I3,r3,k,e,q3⟩=>?_) hm
 subst e
 cases r3
 exact wpAny_truthy_bool ⟨H3,I3,q3⟩
def AX(r r':R2)(ta tb tc:TE):TE:=λσ H Q=>ta σ H λx H1=>tb σ H1 λy H2=>r x y H2 λz H3=>∃k,z=.bl k /\
 (if k=true then tc σ H3 λw' H4=>r' y w' H4 Q else Q (.bl false) H3)
theorem sh{op op':CmpOp}{r r':R2}(ho:OpR X (compareOp op) r)(ho':OpR X (compareOp op') r')(ha:PE X a ta)(hb:PE X b tb)(hc:PE X c tc)
  (hm:lastMarks [op,op'] [b,c]=false:=by with_unfolding_all rfl):PE X (.Compare a [op,op'] [b,c] pos) (AX r r' ta tb tc):=by
 intro pins s σ H Q I h
 refine Compare_chain (thn (ha pins s σ H _ I h) λv s1 ⟨x,H1,I1,r1,q1⟩=>chain_link (thn (hb pins s1 σ H1 _ I1 q1) λu s2 ⟨y,H2,I2,r2,q2⟩ =>
  thn (ho pins s2 σ H2 x y v u _ I2 r1 r2 q2) λd s3 ⟨z,H3,I3,r3,k,e,q3⟩=>?_)) hm
 subst e
 cases r3
 refine wpAny_truthy_bool ?_
 cases k with
 | false=>exact ite_ff ⟨.bl false,H3,I3,rfl,q3⟩
 | true=>exact ite_tt (chain_last (thn (hc pins s3 σ H3 _ I3 q3) λw' s4 ⟨z',H4,I4,r4,q4⟩=>ho' pins s4 σ H4 y z' u w' Q I4 r2 r4 q4))
theorem k6:(sizeLine:Nat)<2 ^ 63:=by rw[sizeLine_eq];decide
theorem uR:OpR X (binaryOp .Add) (λx y H Q=>∃i j,x=.str i/\y=.str j/\i.length+j.length≤sizeLine/\Q (.str (i++j)) H):=by
 intro pins s σ H x y v u Q I rx ry h
 obtain⟨i,j,rfl,rfl,hz,q⟩:=h
 obtain⟨t,rfl⟩:=rx
 obtain⟨t',rfl⟩:=ry
 exact add_str (λt' tk=>⟨.str (i++j),H,I.tok _,⟨_,rfl⟩,q⟩) hz
theorem vals1{x:V}{us:List Value}(r:Vals [x] us):∃u,us=[u]/\RelV x u:=by
 cases r with
 | cons r1 r2=>cases r2;exact⟨_,rfl,r1⟩
theorem vals2{x y:V}{us:List Value}(r:Vals [x,y] us):∃u w',us=[u,w']/\RelV x u/\RelV y w':=by
 cases r with
 | cons r1 r2 =>
  cases r2 with
  | cons r3 r4=>cases r4;exact⟨_,_,rfl,r1,r3⟩
theorem yc(hc:X.calm=true):dg X (.builtin "max") (λxs H Q=>∃i j,xs=[.int i,.int j]/\Q (.int (if j > i then j else i)) H):=by
 intro pins s σ H xs us Q I r h
 obtain⟨i,j,rfl,q⟩:=h
 obtain⟨u,w',rfl,⟨t,rfl⟩,⟨t',rfl⟩⟩:=vals2 r
 refine max_two_ints (I.ok.hd hc) λh' tk k=>⟨_,H,I.kept k,?_,q⟩
 by_cases hj:j > i
 ·rw[if_pos hj,if_pos hj];exact⟨_,rfl⟩
 ·rw[if_neg hj,if_neg hj];exact⟨_,rfl⟩
theorem yd(hc:X.calm=true):dg X (.builtin "min") (λxs H Q=>∃i j,xs=[.int i,.int j]/\Q (.int (if j<i then j else i)) H):=by
 intro pins s σ H xs us Q I r h
 obtain⟨i,j,rfl,q⟩:=h
 obtain⟨u,w',rfl,⟨t,rfl⟩,⟨t',rfl⟩⟩:=vals2 r
 refine min_two_ints (I.ok.hd hc) λh' tk k=>⟨_,H,I.kept k,?_,q⟩
 by_cases hj:j<i
 ·rw[if_pos hj,if_pos hj];exact⟨_,rfl⟩
 ·rw[if_neg hj,if_neg hj];exact⟨_,rfl⟩
theorem ye:dg X (.type "int") (λxs H Q=>(∃i,xs=[.int i]/\Q (.int i) H)∨∃k,xs=[.bl k]/\Q (.int (if k then 1 else 0)) H):=by
 intro pins s σ H xs us Q I r h
 rcases h with ⟨i,rfl,q⟩|⟨k,rfl,q⟩
 ·obtain⟨u,rfl,t,rfl⟩:=vals1 r
  exact call_int_int ⟨.int i,H,I,⟨_,rfl⟩,q⟩
 ·obtain⟨u,rfl,r1⟩:=vals1 r
  cases r1
  exact call_int_bool ⟨.int (if k then 1 else 0),H,I.tok _,⟨_,rfl⟩,q⟩
theorem qg:dg X (.type "str") (λxs H Q=>∃i,xs=[.int i]/\i.natAbs.log2<1920/\Q (.str (toString i)) H):=by
 intro pins s σ H xs us Q I r h
 obtain⟨i,rfl,hz,q⟩:=h
 obtain⟨u,rfl,t,rfl⟩:=vals1 r
 exact PySem.P.str_of_int hz ⟨.str _,H,I.tok _,⟨_,rfl⟩,q⟩
end
section
variable{prog:Program}{w:World}{A:Around}{E:Value->Shared->Prop}{s:Shared}{K:PySem.W.Frag}{x dx C f:Addr}{mA:Str->Option Value}{name:Str}{v:Value}
end
section
variable{P:Program}{w:World}{H H':Hp}{h h':Heap}{a C dx:Addr}{fs fs':List (Str×V)}
end
section
variable{X:Cx}{pins:List (Addr×Obj)}{σ:St}{H:Hp}{s:Shared}{a C dx:Addr}{fs:List (Str×V)}{f:Str}{v:V}{A:Around}{E:Value->Shared->Prop}
end
section
variable{X:Cx}{o e value:Expr}{f:Str}{pos pos' qh:Pos}{ta tv:TE}
end
section
variable{X:Cx}{pins:List (Addr×Obj)}{σ:St}{H:Hp}{s:Shared}{A:Around}{E:Value->Shared->Prop}{Q:Value->Shared->Prop}{c:Value}{b:Bool}
end
structure dP(k:Nat)(A:Around):Prop where
 hd:A.handled=none
 dp:A.depth+3*k+5<recursionLimit
 un:A.units+16*k+200<cLine
theorem dP.mono{j k:Nat}{A:Around}(r:dP k A)(h:j≤k):dP j A:=⟨r.hd,by have:=r.dp;lia,by have:=r.un;lia⟩
theorem dP.deeper{k:Nat}{A:Around}(r:dP (k+1) A)(env:Env):dP k (A.deeper env) :=
 ⟨r.hd,by have:=r.dp;show A.depth+1+3*k+5<_;lia,by have:=r.un;show A.units+3+16*k+200<_;lia⟩
theorem dP.depth{k:Nat}{A:Around}(r:dP k A):A.depth<recursionLimit:=by have:=r.dp;lia
theorem dP.units{k:Nat}{A:Around}(r:dP k A):A.units+64<cLine:=by have:=r.un;lia
def K6:TA:=λ_ H Q=>Q [] H
def AY(ta:TE)(tr:TA):TA:=λσ H Q=>ta σ H λx H1=>tr σ H1 λxs H2=>Q (x::xs) H2
section
variable{X:Cx}{e:Expr}{es:List Expr}{te:TE}{t:TA}{pos:Pos}
theorem qi:PA X [] K6:=λ_ _ _ _ H Q I h=>Calls.spliced_nil ⟨[],H,I,.nil,h⟩
theorem gy(ha:PE X e te)(hr:PA X es t)(hs:starEach (e::es) X.env=(false,eval e X.env)::starEach es X.env:=by rfl):PA X (e::es) (AY te t):=by
 intro pos pins s σ H Q I h
 rw[hs]
 show wpAny _ _ (spliced ((false,eval e X.env)::backTo pos (starEach es X.env))) _ _ s
 refine Calls.spliced_cons (thn (ha pins s σ H _ I h) λu s1 ao=>?_)
 obtain⟨x,H1,I1,r1,q1⟩:=ao
 exact thn (hr pos pins s1 σ H1 _ I1 q1) λus s2 ⟨xs,H2,I2,r2,q2⟩=>⟨x::xs,H2,I2,.cons r1 r2,q2⟩
def M3(t:TA):TE:=λσ H Q=>t σ H λxs H1=>xs.length≤sizeLine/\∀p,H1 p=none->Q (.ref p) (upd H1 p (.tup xs))
def M4(t:TA):TE:=λσ H Q=>t σ H λxs H1=>xs.length≤sizeLine/\∀p,H1 p=none->Q (.ref p) (upd H1 p (.lst xs))
theorem IM{x1}(h:PA X es t):PE X (.Tuple es x1 pos) (M3 t):=by
 intro pins s σ H Q I hq
 refine wpAny_Tuple_spliced (thn (h pos pins s σ H _ I hq) λus s1 ⟨xs,H1,I1,r,z,q⟩=>⟨by rw[← r.length];exact z,?_⟩)
 have hf:H1 s1.heap.objs.size=none:=I1.hok.fresh (Nat.le_refl _)
 refine⟨.ref s1.heap.objs.size,upd H1 s1.heap.objs.size (.tup xs),I1.laid (t':=s1.toks) (λb u e=>Heap.get?_push_of_some _ e) (Nat.le_refl _) ?_,rfl,q _ hf⟩
 exact⟨z,us,r,⟨_,Heap.get?_push_size _ rfl,rfl,_,rfl⟩⟩
theorem AZ(h:PA X es t):PE X (.List es pos) (M4 t):=by
 intro pins s σ H Q I hq
 refine wpAny_List_spliced (thn (h pos pins s σ H _ I hq) λus s1 ⟨xs,H1,I1,r,z,q⟩=>⟨by rw[← r.length];exact z,?_⟩)
 have hf:H1 s1.heap.objs.size=none:=I1.hok.fresh (Nat.le_refl _)
 refine⟨.ref s1.heap.objs.size,upd H1 s1.heap.objs.size (.lst xs),I1.laid (t':=s1.toks) (λb u e=>Heap.get?_push_of_some _ e) (Nat.le_refl _) ?_,rfl,q _ hf⟩
 exact⟨z,us,0,r,Heap.get?_push_size _ rfl⟩
end
abbrev Sp:=List V->Hp->VK->XK->Prop
abbrev CXT:=List Env->Hp->Shared->XK->Value->Shared->Prop
structure E3(P:Program)(w:World)(K:PySem.W.Frag)(mg:Str->Option Value)(base:Heap)(A:Around)(outer:List Env)(s:Shared)(H:Hp):Prop where
 frames:A.frames=some outer
 mod:Mod K mg base
 bs:∀b o,base.get? b=some o->s.heap.get? b=some o/\H b=none
 bsz:base.objs.size≤s.heap.objs.size
 jC:s.heap.FunFrames base outer
 frf:∀b∈frs outer,H b=none
 hok:HOk P w H s.heap
 bare:AllBare s.gens
def CE(outer:List Env)(P:Program)(w:World)(H:Hp)(s:Shared)(Q:VK)(u:Value)(s':Shared):Prop :=
 ∃v H',s'.os=s.os/\AllBare s'.gens/\Un (frs outer) [] H H' s.heap s'.heap/\HOk P w H' s'.heap/\RelV v u/\Q v H'
def CR(CX:CXT)(outer:List Env)(P:Program)(w:World)(H:Hp)(s:Shared)(Q:VK)(E:XK)(r:Result)(s':Shared):Prop :=
 match r with
 | .ok (.ret u)=>CE outer P w H s Q u s'
 | .ok _=>False
 | .error e=>CX outer H s E e s'
structure gb(P:Program)(w:World)(K:PySem.W.Frag)(mg:Str->Option Value)(base:Heap)(CX:CXT)(k:Nat)(f:Addr)(fd:FuncData)(ps:List Str)(sp:Sp):Prop where
 len:∀vs H Q E,sp vs H Q E->vs.length=ps.length
 run:∀(A:Around) (outer:List Env) (s:Shared) (H:Hp) (args:Args) (us:List Value) (vs:List V) (Q:VK) (E:XK),dP k A->E3 P w K mg base A outer s H->BindsTo s fd args (ps.zip us)->Vals vs us->sp vs H Q E ->
  codeAny (model P w) A (.call (.ref f) args) (CR CX outer P w H s Q E) s
theorem gb.mono{P:Program}{w:World}{K:PySem.W.Frag}{mg:Str->Option Value}{base:Heap}{CX:CXT}{j k:Nat}{f:Addr}{fd:FuncData}{ps:List Str}{sp:Sp}(F:gb P w K mg base CX j f fd ps sp)(h:j≤k) :
  gb P w K mg base CX k f fd ps sp:=⟨F.len,λA outer s H args us vs Q E hr=>F.run A outer s H args us vs Q E (hr.mono h)⟩
section
variable{X:Cx}{pins:List (Addr×Obj)}{σ:St}{H:Hp}{s s':Shared}
theorem Inv.E4(I:Inv X pins σ H s):E3 X.prog X.w X.K X.mg X.base X.A X.stack s H :=
 ⟨I.ok.frames,I.ok.mod,I.bs,Nat.le_trans I.ok.bsz I.sz,I.stack,I.j5,I.hok,I.bare⟩
theorem Inv.after{Q:VK}{u:Value}(I:Inv X pins σ H s)(h:CE X.stack X.prog X.w H s Q u s'):EP X pins σ Q u s':=by
 obtain⟨v,H',os,bare,un,hok,r,q⟩:=h
 obtain⟨hh,g,d,t,os'⟩:=s'
 obtain rfl:os'=s.os:=os
 exact⟨v,H',I.call (h':=hh) (g':=g) (d':=d) (t':=t) (ch:=[]) un hok bare (λb z=>absurd z (by simp)),r,q⟩
end
def HB(sp:Sp)(dvs:List V)(E:XK)(t:TA):TE:=λσ H Q=>t σ H λvs H1=>sp (vs++dvs) H1 Q E
def Binds(K:PySem.W.Frag)(fd:FuncData)(ps:List Str)(ds:List Value):Prop :=
 ∀(s:Shared) (us:List Value),K.In s.heap->(us++ds).length=ps.length->BindsTo s fd ⟨us,[]⟩ (ps.zip (us++ds))
theorem Binds.all{K:PySem.W.Frag}{fd:FuncData}{ps:List Str}(h:∀us:List Value,us.length=ps.length->bindArgs fd ⟨us,[]⟩=pure (ps.zip us)):Binds K fd ps []:=λs us _ hl=>by
 rw[List.append_nil] at hl ⊢
 exact .of_eq (h us hl)
def Passes(CX:CXT)(X:Cx)(E:XK):Prop:=∀(pins:List (Addr×Obj)) (σ:St) (H:Hp) (s:Shared) (e:Value) (s':Shared),Inv X pins σ H s->CX X.stack H s E e s'->X.xe e s'
section
variable{X:Cx}{CX:CXT}{k:Nat}{f C:Addr}{fd:FuncData}{ps:List Str}{sp:Sp}{dvs:List V}{ds:List Value}{E:XK}{x m:Str}{p pos apos:Pos}{e o:Expr}{es:List Expr}{ta:TE}{t:TA}
theorem IP{pins:List (Addr×Obj)}{σ:St}{H:Hp}{s:Shared}{Q:VK}{us:List Value}{vs:List V}(F:gb X.prog X.w X.K X.mg X.base CX k f fd ps sp)(hr:dP k X.A)(hb:Binds X.K fd ps ds)(hd:Vals dvs ds)(hx:Passes CX X E)
  (I:Inv X pins σ H s) (r:Vals vs us) (h:sp (vs++dvs) H Q E):wpAny (model X.prog X.w) X.A (call (.ref f) us) (EP X pins σ Q) X.xe s:=by
 have r2:Vals (vs++dvs) (us++ds):=r.append hd
 have hl:(us++ds).length=ps.length:=by rw[← r2.length];exact F.len _ _ _ _ h
 refine wpAny_call (codeAny_mono (F.run X.A X.stack s H ⟨us,[]⟩ (us++ds) (vs++dvs) Q E hr I.E4 (hb s us I.kIn hl) r2 h) λr s' hq=>?_)
 cases r with
 | error e=>exact hx pins σ H s e s' I hq
 | ok fl =>
  cases fl with
  | ret u=>exact I.after hq
  | next=>exact False.elim hq
  | brk=>exact False.elim hq
  | cont=>exact False.elim hq
theorem E5(F:gb X.prog X.w X.K X.mg X.base CX k f fd ps sp)(hr:dP k X.A)(hg:Gl X x)(hm:X.mg x=some (.ref f))(hk:PySem.W.keepIn X.K (.ref f)=true)(hb:Binds X.K fd ps ds)(hd:Vals dvs ds)(hx:Passes CX X E)
  (ha:PA X (e::es) t) (hdb:(x==("__debug__":Str))=false:=by decide) (he:starEach (e::es) X.env=(false,eval e X.env)::starEach es X.env:=by rfl) (hpl:(backTo pos (starEach es X.env)).any (·.1)=false:=by rfl) :
  PE X (.Call (.Name x p) (e::es) [] pos) (HB sp dvs E t):=by
 intro pins s σ H Q I h
 refine wpAny_Call_Name_kw (iY I hg hm ?_ hdb)
 refine PySem.W.callWith_K (h₀:=X.base) I.ok.mod.kin hk (thn (ha pos pins s σ H _ I h) λus s1 ⟨vs,H1,I1,r,q⟩=>⟨I1.kIn,?_⟩) he hpl
 exact IP F hr hb hd hx I1 r q
end
section
variable{X:Cx}{CX:CXT}{k:Nat}{f C:Addr}{fd:FuncData}{ps ks:List Str}{sp:Sp}{E:XK}{x m:Str}{p pos apos Nw:Pos}{e o:Expr}{es:List Expr}{kws:List Keyword}{te ta:TE}{t tk:TA}{nm:Option Str}
variable{g:List Value->List Value->List Value}{gV:List V->List V->List V}
end
structure aY(N P:List Str)(sc:Scope):Prop where
 kind:sc.kind=.function
 co:sc.isCoroutine=false
 gen:sc.isGenerator=false
 nd:N.Nodup
 pre:N.take P.length=P
 par:∀x∈P,sc.names.lookup x=some .local∨sc.names.lookup x=some .cell
 IQ:∀y∈sc.names,y.2≠.free
theorem o_{kindOf:Str->Option NameKind}{x:Str}:∀{binds:List (Str×Value)}{m:Str->Option Value},(∀v,(x,v)∉binds)->bindL kindOf binds m x=m x
 | [],_,_=>rfl
 | (n,v)::r,m,h=>by
  unfold bindL
  rw[o_ λw hw=>h w (List.mem_cons_of_mem _ hw)]
  split
  ·have:x≠n:=by rintro rfl;exact h v List.mem_cons_self
   simp[this]
  ·rfl
theorem pb{kindOf:Str->Option NameKind}{x:Str}:∀{binds:List (Str×Value)}{m:Str->Option Value},(∀v,(x,v)∉binds)->bindC kindOf binds m x=m x
 | [],_,_=>rfl
 | (n,v)::r,m,h=>by
  unfold bindC
  rw[pb λw hw=>h w (List.mem_cons_of_mem _ hw)]
  split
  ·rfl
  ·have:x≠n:=by rintro rfl;exact h v List.mem_cons_self
   simp[this]
theorem pd{kindOf:Str->Option NameKind}{x:Str}{v:Value}:∀{P:List Str}{vs:List Value}{i:Nat}{m:Str->Option Value},P.Nodup->P[i]?=some x->vs[i]?=some v->kindOf x=some .local ->
  bindL kindOf (P.zip vs) m x=some v
 | [],_,_,_,_,h,_,_=>by simp at h
 | _::_,[],_,_,_,_,h,_=>by simp at h
 | p::P,w::vs,0,m,nd,h1,h2,hk=>by
  simp at h1 h2;subst h1;subst h2
  show bindL kindOf ((p,w)::P.zip vs) m p=_
  unfold bindL
  rw[o_ λv hv=>(List.nodup_cons.mp nd).1 (List.of_mem_zip hv).1,if_pos hk]
  simp
 | p::P,w::vs,i+1,m,nd,h1,h2,hk=>by
  show bindL kindOf ((p,w)::P.zip vs) m x=_
  unfold bindL
  exact pd (i:=i) (List.nodup_cons.mp nd).2 (by simpa using h1) (by simpa using h2) hk
theorem pf{kindOf:Str->Option NameKind}{x:Str}{v:Value}:∀{P:List Str}{vs:List Value}{i:Nat}{m:Str->Option Value},P.Nodup->P[i]?=some x->vs[i]?=some v->kindOf x≠some .local ->
  bindC kindOf (P.zip vs) m x=some v
 | [],_,_,_,_,h,_,_=>by simp at h
 | _::_,[],_,_,_,_,h,_=>by simp at h
 | p::P,w::vs,0,m,nd,h1,h2,hk=>by
  simp at h1 h2;subst h1;subst h2
  show bindC kindOf ((p,w)::P.zip vs) m p=_
  unfold bindC
  rw[pb λv hv=>(List.nodup_cons.mp nd).1 (List.of_mem_zip hv).1,if_neg hk]
  simp
 | p::P,w::vs,i+1,m,nd,h1,h2,hk=>by
  show bindC kindOf ((p,w)::P.zip vs) m x=_
  unfold bindC
  exact pf (i:=i) (List.nodup_cons.mp nd).2 (by simpa using h1) (by simpa using h2) hk
def start(N:List Str)(vs:List V):St:=vs.map some++List.replicate (N.length-vs.length) none
def j8(CX:CXT)(P:Program)(w:World)(K:PySem.W.Frag)(mg:Str->Option Value)(base:Heap)(N:List Str)(qual:Str)(scope:Scope)(f:Addr)(cd:Value)(A:Around)(outer:List Env)(s:Shared)(H:Hp)(E:XK):Cx where
 prog:=P
 w:=w
 K:=K
 mg:=mg
 base:=base
 A:=A.deeper (envOfC qual scope s.heap.objs.size f cd)
 N:=N
 s₀:=s
 H₀:=H
 env:=envOfC qual scope s.heap.objs.size f cd
 outer:=outer
 stack:=envOfC qual scope s.heap.objs.size f cd::outer
 ex:=[]
 calm:=true
 fn:=λ_=>true
 pn:=[]
 xe:=λe s'=>wpAny (model P w) (A.deeper (envOfC qual scope s.heap.objs.size f cd)) (leaving (envOfC qual scope s.heap.objs.size f cd) e) (λ_ s''=>CX outer H s E e s'') (λe' s''=>CX outer H s E e' s'') s'
theorem si{sc:Scope}{n:Nat}{x:Str}(h:sc.names.lookup x=some .cell):∃c,(cellsFrom n sc.names []).lookup x=some c:=by
 have q:=PySem.W.cellsFrom_some sc.names n [] (.inl h)
 exact Option.isSome_iff_exists.mp q
theorem yf{CX:CXT}{P:Program}{w:World}{K:PySem.W.Frag}{mg:Str->Option Value}{base:Heap}{N ps:List Str}{qual:Str}{scope:Scope}{f:Addr}{cd:Value}{A:Around}{outer:List Env}{s s1:Shared}{H:Hp}{E:XK}{us:List Value}{vs:List V}
  (S:aY N ps scope) (hd:A.handled=none) (e0:E3 P w K mg base A outer s H) (hl:vs.length=ps.length) (r:Vals vs us)
  (x:InCallC s s.heap.objs.size (bindL (envOfC qual scope s.heap.objs.size f cd).kindOf (ps.zip us) λ_=>none) (cellsFrom (s.heap.objs.size+1) scope.names []) (bindC (envOfC qual scope s.heap.objs.size f cd).kindOf (ps.zip us) λ_=>none) s1) :
  Inv (j8 CX P w K mg base N qual scope f cd A outer s H E) [] (start N vs) H s1:=by
 have hpl:ps.length≤N.length:=by have:=congrArg List.length S.pre;rw[List.length_take] at this;lia
 obtain⟨h1,tk,rfl,hk⟩:=x.done
 have noA:∀b:Addr,b∉(j8 CX P w K mg base N qual scope f cd A outer s H E).ex:=λb z=>absurd (show b∈([]:List Addr) from z) (by simp)
 refine⟨⟨e0.mod,S.kind,rfl,rfl,Nat.le_refl _,λy z c h1 h2=>?_,λy hy=>?_,λy c _ h=>?_,λ_=>hd,Around.frames_deeper e0.frames,.inr ⟨rfl,rfl⟩,λb z=>absurd z (noA b),e0.bs,e0.bsz,λb _ _=>noA b,λb z=>absurd z (noA b),e0.jC,e0.frf⟩,
  rfl,e0.bare,Un.kept hk,⟨_,x.toInCall.ns,λi y v h1 h2 h3=>?_⟩,λy c h=>⟨_,x.cell y c h⟩,e0.hok.fresh (Nat.le_refl _),λy c h=>?_,λp hp=>absurd (show p∈([]:List (Addr×Obj)) from hp) (by simp),e0.hok.kept hk,?_⟩
 ·exact name_of_addr x.apart (PySem.mem_of_lookup h1) (PySem.mem_of_lookup h2)
 ·have hy:scope.names.lookup y=some .cell∨scope.names.lookup y=some .free:=hy
  rcases hy with hy|hy
  ·exact si hy
  ·exact absurd rfl (S.IQ _ (PySem.mem_of_lookup hy))
 ·exact Nat.le_of_lt (x.above y c (PySem.mem_of_lookup h))
 ·have hi:i<vs.length:=by
   unfold start at h2
   by_cases hi:i<vs.length
   ·exact hi
   ·rw[List.getElem?_append_right (by simpa using hi)] at h2
    rw[List.getElem?_replicate] at h2
    split at h2<;>cases h2
  have ha:vs[i]?=some v:=by
   unfold start at h2
   rw[List.getElem?_append_left (by simpa using hi),List.getElem?_map] at h2
   cases e:vs[i]? with
   | none=>rw[e] at h2;cases h2
   | some a=>rw[e] at h2;cases h2;rfl
  obtain⟨u,hu,rv⟩:=r.get ha
  have hp:ps[i]?=some y:=by
   rw[← S.pre,List.getElem?_take_of_lt (by lia)];exact h1
  have ndP:ps.Nodup:=by rw[← S.pre];exact S.nd.sublist (List.take_sublist _ _)
  refine⟨u,rv,?_⟩
  rcases S.par y (List.mem_of_getElem? hp) with k|k
  ·exact .inl ⟨k,pd ndP hp hu k⟩
  ·obtain⟨c,e⟩:=si (n:=s.heap.objs.size+1) k
   refine .inr ⟨.inl k,c,e,?_⟩
   have q:=x.cell y c e
   rw[pf ndP hp hu (by show scope.names.lookup y≠_;rw[k];decide)] at q
   exact q
 ·exact e0.hok.fresh (Nat.le_of_lt (x.above y c (PySem.mem_of_lookup h)))
 ·unfold start
  show _=N.length
  rw[List.length_append,List.length_map,List.length_replicate]
  lia
theorem HC{CX:CXT}{P:Program}{w:World}{K:PySem.W.Frag}{mg:Str->Option Value}{base:Heap}{k:Nat}{f:Addr}{name qual:Str}{params:Arguments}{body:List Stmt}{scope:Scope}{dV kV doc pm cdv ct oc:Value}{an od:Option Addr}
  {osl:Array (Option Value)}{N ps:List Str}{sp:Sp} (lk:K.lookup f=some ⟨oc,od,.func (PySem.W.fnOf name qual params body scope dV kV doc pm an cdv ct),osl⟩) (hcd:PySem.W.codeIn K cdv qual=true) (S:aY N ps scope)
  (len:∀vs H Q E,sp vs H Q E->vs.length=ps.length)
  (A_:∀(A:Around) (outer:List Env) (s:Shared) (H:Hp) (vs:List V) (Q:VK) (E:XK),dP k (A.deeper (envOfC qual scope s.heap.objs.size f cdv))->sp vs H Q E ->
   ∃t,PSs (j8 CX P w K mg base N qual scope f cdv A outer s H E) body t/\t { nx:=λ_ H'=>Q .non H',rt:=Q } (start N vs) H) :
  gb P w K mg base CX (k+1) f (PySem.W.fnOf name qual params body scope dV kV doc pm an cdv ct) ps sp:=by
 refine⟨len,λA outer s H args us vs Q E hr e0 hb r hsp=>?_⟩
 have hl:=len _ _ _ _ hsp
 have KX:K.In s.heap:=e0.mod.kin.keeps λb o e=>(e0.bs b o e).1
 have lim:s.heap.NoLimit:=e0.mod.nolimit.keeps λb o e=>(e0.bs b o e).1
 have K7:∀y∈ps.zip us,scope.names.lookup y.1=some .local∨(scope.names.lookup y.1=some .cell/\((cellsFrom (s.heap.objs.size+1) scope.names []).lookup y.1).isSome=true):=λao hy=>by
  obtain⟨n,v⟩:=ao
  rcases S.par n (List.of_mem_zip hy).1 with q|q
  ·exact .inl q
  ·exact .inr ⟨q,PySem.W.cellsFrom_some _ _ _ (.inl q)⟩
 refine codeAny_call_function hr.depth (KX _ _ lk) rfl S.co S.gen rfl (PySem.W.codeRec_of KX hcd) (hb _ _ _ _ ?_)
 refine wpAny_newFunctionEnv_cells S.kind K7 λenv he s1 x=>?_
 subst he
 refine⟨lim.keeps x.toInCall.keep,codeAny_func ?_⟩
 obtain⟨t,ht,hq⟩:=A_ A outer s H vs Q E (hr.deeper _) hsp
 have I:Inv (j8 CX P w K mg base N qual scope f cdv A outer s H E) [] (start N vs) H s1:=yf S hr.hd e0 hl r x
 refine wpAny_mono (ht [] s1 (start N vs) H _ I hq) (λfl s' hs=>?_) λe s' hs=>hs
 have fin:∀{σ':St}{H':Hp}{v:V}{u:Value},Inv (j8 CX P w K mg base N qual scope f cdv A outer s H E) [] σ' H' s'->RelV v u->Q v H'->CE outer P w H s Q u s' :=
  λ{σ' H' v u} J rv q=>⟨v,H',J.os,J.bare,J.base,J.hok,rv,q⟩
 cases fl with
 | ret u =>
  obtain⟨v,σ',H',J,rv,q⟩:=hs
  exact fin J rv q
 | next =>
  obtain⟨σ',H',J,q⟩:=hs
  exact fin (v:=V.non) (u:=Value.none) J rfl q
 | brk =>
  obtain⟨_,_,_,q⟩:=hs
  exact False.elim q
 | cont =>
  obtain⟨_,_,_,q⟩:=hs
  exact False.elim q
section
variable{X:Cx}{x:Str}{p pos:Pos}{e:Expr}{es:List Expr}{t:TA}{id T:String}{r:List V->Hp->VK->Prop}
def tCB(r:List V->Hp->VK->Prop)(t:TA):TE:=λσ H Q=>t σ H λvs H1=>r vs H1 Q
theorem ir(hc:dg X (.builtin id) r)(hg:Gl X x)(hm:X.mg x=none)(hv:bootBuiltins x=some (.builtin id))(ha:PA X (e::es) t)(hn:x≠"__name__":=by decide)(hdb:(x==("__debug__":Str))=false:=by decide)
  (he:starEach (e::es) X.env=(false,eval e X.env)::starEach es X.env:=by rfl) (hpl:(backTo pos (starEach es X.env)).any (·.1)=false:=by rfl):PE X (.Call (.Name x p) (e::es) [] pos) (tCB r t):=by
 intro pins s σ H Q I h
 refine wpAny_Call_Name_kw (mI I hg hm hv ?_ hn hdb)
 exact PyProof.Rows.callWith_builtin1 (thn (ha pos pins s σ H _ I h) λus s1 ⟨vs,H1,I1,r1,q1⟩=>hc pins s1 σ H1 vs us Q I1 r1 q1) he hpl
theorem yg(hc:dg X (.type T) r)(hg:Gl X x)(hm:X.mg x=none)(hv:bootBuiltins x=some (.type T))(ha:PA X (e::es) t)(hn:x≠"__name__":=by decide)(hdb:(x==("__debug__":Str))=false:=by decide)
  (he:starEach (e::es) X.env=(false,eval e X.env)::starEach es X.env:=by rfl) (hpl:(backTo pos (starEach es X.env)).any (·.1)=false:=by rfl):PE X (.Call (.Name x p) (e::es) [] pos) (tCB r t):=by
 intro pins s σ H Q I h
 refine wpAny_Call_Name_kw (mI I hg hm hv ?_ hn hdb)
 exact PyProof.Rows.callWith_type1 (thn (ha pos pins s σ H _ I h) λus s1 ⟨vs,H1,I1,r1,q1⟩=>hc pins s1 σ H1 vs us Q I1 r1 q1) he hpl
end
end L2
namespace HT
open PySem PyProof.Rows
section
open PySem.SeqAt
open PySem.AutoSeq1 (wpAny_loadPart')
open PySem.MeetsSeq PySem.MeetsSeq2 PySem.MeetsSeq3
end
section
variable{prog:Program}{w:World}{A:Around}{E:Value->Shared->Prop}{s:Shared}
theorem E6{t b:Addr}{vs ws:List Value}{Q:Value->Shared->Prop}(ht:IsTup s.heap t vs.toArray)(hb:IsTup s.heap b ws.toArray)(hv:vs≠[])
  (h1:ws=[]->Q (.ref t) s) (h2:ws≠[]->Q (.ref s.heap.objs.size) { s with heap:=s.heap.push { cls:=.type "tuple",data:=.seq (vs++ws).toArray } })
  (hsz:vs.length+ws.length≤sizeLine):wpAny (model prog w) A (binaryOp .Add (.ref t) (.ref b)) Q E s:=by
 obtain⟨⟨cls,dd,data,sl⟩,ho,hc,n,hd⟩:=id ht
 obtain⟨⟨K8,dd2,data2,sl2⟩,ho2,hc2,n2,hd2⟩:=id hb
 simp only at hc hd hc2 hd2
 subst hc hd hc2 hd2
 have e:vs.toArray++ws.toArray=(vs++ws).toArray:=by simp
 by_cases hw:ws=[]
 ·exact concat_meets ⟨_,ho,rfl⟩ ⟨_,ho2,rfl⟩ noFill_tuple_add seq_tuple_add PySem.F.slot_tuple_add PySem.F.entry_tuple_add (PySem.F.args_tuple_add_2 _ _)
   (tuple_addW1 t b vs.toArray ws.toArray n n2 dd dd2 sl sl2 (by simpa using hv) (by simp[hw])) ⟨ho,ho2,h1 hw⟩
 ·refine concat_meets ⟨_,ho,rfl⟩ ⟨_,ho2,rfl⟩ noFill_tuple_add seq_tuple_add PySem.F.slot_tuple_add PySem.F.entry_tuple_add (PySem.F.args_tuple_add_2 _ _)
   (tuple_addW2 t b vs.toArray ws.toArray n n2 dd dd2 sl sl2 (by simpa using hv) (by simpa using hw) (by rw[List.size_toArray,List.size_toArray];exact hsz)) ⟨ho,ho2,?_⟩
  rw[e]
  exact h2 hw
end
end HT
namespace L2
open PySem PySem.Spec PyProof.Rows
abbrev TO:=St->Hp->(Option Int->Hp->Prop)->Prop
def PO(X:Cx)(e:Option Expr)(t:TO):Prop :=
 ∀(pins:List (Addr×Obj)) (s:Shared) (σ:St) (H:Hp) (Q:Option Int->Hp->Prop),Inv X pins σ H s->t σ H Q ->
  wpAny (model X.prog X.w) X.A (evalPart e X.env) (λu s'=>∃o H',Inv X pins σ H' s'/\IsPart u o/\Q o H') X.xe s
def E7:TO:=λ_ H Q=>Q none H
def K9(t:TE):TO:=λσ H Q=>t σ H λx H1=>∃i,x=.int i/\Q (some i) H1
section
variable{X:Cx}{e:Expr}{te:TE}{lo hi:Option Expr}{tl th:TO}{pos p2:Pos}
theorem E8:PO X none E7:=by
 intro pins s σ H Q I h
 rw[evalPart_none]
 exact wpAny_pure ⟨none,H,I,.none,h⟩
theorem E9(h:PE X e te):PO X (some e) (K9 te):=by
 intro pins s σ H Q I hw
 rw[evalPart_some]
 refine thn (h pins s σ H _ I hw) λu s1 ao=>?_
 obtain⟨x,H1,I1,r1,q1⟩:=ao
 obtain⟨i,rfl,q⟩:=q1
 obtain⟨t,rfl⟩:=r1
 exact⟨some i,H1,I1,.int i t,q⟩
def SlR(X:Cx)(r:V->Option Int->Option Int->Hp->VK->Prop):Prop :=
 ∀(pins:List (Addr×Obj)) (s:Shared) (σ:St) (H:Hp) (x:V) (v vl vu:Value) (lo hi:Option Int) (sl:Addr) (Q:VK),Inv X pins σ H s->RelV x v->s.heap.IsSliceOf sl vl vu .none->IsPart vl lo->IsPart vu hi->r x lo hi H Q ->
  ∃T id,typeLookup (.type T) "__getitem__"=pure (some (.builtin id))/\s.TypeIs v T/\wpAny (model X.prog X.w) X.A (getItem v (.ref sl)) (EP X pins σ Q) X.xe s
def tSl(r:V->Option Int->Option Int->Hp->VK->Prop)(te:TE)(tl th:TO):TE:=λσ H Q=>te σ H λx H1=>tl σ H1 λl H2=>th σ H2 λu H3=>r x l u H3 Q
theorem Ba{r:V->Option Int->Option Int->Hp->VK->Prop}(hr:SlR X r)(he:PE X e te)(hl:PO X lo tl)(hu:PO X hi th):PE X (.Subscript e (.Slice lo hi none p2) pos) (tSl r te tl th):=by
 intro pins s σ H Q I h
 refine Subscript_ (thn (he pins s σ H _ I h) λv s1 ao=>?_)
 obtain⟨x,H1,I1,r1,q1⟩:=ao
 refine wpAny_Slice (thn (hl pins s1 σ H1 _ I1 q1) λvl s2 ⟨l,H2,I2,pl,q2⟩=>thn (hu pins s2 σ H2 _ I2 q2) λvu s3 dt=>?_)
 obtain⟨u,H3,I3,pu,q3⟩:=dt
 rw[evalPart_none]
 refine wpAny_pure ?_
 have I4:Inv X pins σ H3 { s3 with heap:=s3.heap.push { cls:=.type "slice",data:=.fields #[vl,vu,.none] } }:=I3.kept (t':=s3.toks) λb ob q=>Heap.get?_push_of_some _ q
 obtain⟨T,id,hT,ht,hg⟩:=hr pins { s3 with heap:=s3.heap.push { cls:=.type "slice",data:=.fields #[vl,vu,.none] } } σ H3 x v vl vu l u s3.heap.objs.size Q I4 r1 (Heap.IsSliceOf.new ..) pl pu q3
 show wpAny (model X.prog X.w) X.A (subscriptTail e (.Slice lo hi none p2) v (.ref s3.heap.objs.size)) (EP X pins σ Q) X.xe { s3 with heap:=s3.heap.push { cls:=.type "slice",data:=.fields #[vl,vu,.none] } }
 exact tail_any (ops:=[.ref s3.heap.objs.size,v]) ht hT hg (by with_unfolding_all rfl)
def K_(K:PySem.W.Frag):R2:=λx y H Q=>∃a b xs ys,x=.ref a/\y=.ref b/\SqT K H a xs/\SqT K H b ys/\xs≠[]/\xs.length+ys.length≤sizeLine /\
 (ys=[]->Q (.ref a) H)/\(ys≠[]->∀p,H p=none->Q (.ref p) (upd H p (.tup (xs++ys))))
theorem Vals.mh{xs:List V}{us:List Value}(r:Vals xs us):us=[]↔xs=[]:=by
 cases r with
 | nil=>simp
 | cons _ _=>simp
theorem E_:OpR X (binaryOp .Add) (K_ X.K):=by
 intro pins s σ H x y v u Q I rx ry h
 obtain⟨a,b,xs,ys,rfl,rfl,ha,hb,hx,hz,q1,q2⟩:=h
 cases rx
 cases ry
 obtain⟨its,r1,p1,_⟩:=I.tuple ha
 obtain⟨mK,r2,p2,_⟩:=I.tuple hb
 refine HT.E6 p1 p2 (λz=>hx (r1.mh.mp z)) (λz=>⟨.ref a,H,I,rfl,q1 (r2.mh.mp z)⟩) (λz=>?_) (by rw[← r1.length,← r2.length];exact hz)
 refine⟨.ref s.heap.objs.size,_,I.laid (t':=s.toks) (o:=.tup (xs++ys)) (λb ob q=>Heap.get?_push_of_some _ q) (Nat.le_refl _) ?_,rfl,q2 (λw=>z (r2.mh.mpr w)) _ (I.hok.fresh (Nat.le_refl _))⟩
 exact⟨by rw[List.length_append];exact hz,_,r1.append r2,IsTup.new _ _⟩
end
noncomputable def ixN (n : Nat) (i : Int) : Option Nat := if 0 ≤ i then (if i < n then some i.toNat else none) else if -(n : Int) ≤ i then some (i + n).toNat else none
noncomputable def atI {α : Type} (xs : List α) (i : Int) : Option α := (ixN xs.length i).bind fun j => xs[j]?
theorem wK{n:Nat}{i:Int}{j:Nat}(h:ixN n i=some j):seqIndex? i n=some j/\j<n/\-(n:Int)≤i/\i<n:=by
 unfold ixN at h
 by_cases h0:0≤i
 ·rw[if_pos h0] at h
  by_cases h1:i<n
  ·rw[if_pos h1] at h
   have e:i.toNat=j:=Option.some.inj h
   exact⟨by rw[seqIndex_of h0 h1,e],by lia,by lia,h1⟩
  ·rw[if_neg h1] at h;cases h
 ·rw[if_neg h0] at h
  by_cases h1:-(n:Int)≤i
  ·rw[if_pos h1] at h
   have e:(i+n).toNat=j:=Option.some.inj h
   exact⟨by rw[seqIndex_neg (by lia) h1,e],by lia,h1,by lia⟩
  ·rw[if_neg h1] at h;cases h
theorem qj{α:Type}{xs:List α}{i:Int}{v:α}(h:atI xs i=some v):∃j,seqIndex? i xs.length=some j/\xs[j]?=some v/\j<xs.length/\-(xs.length:Int)≤i/\i<xs.length:=by
 unfold atI at h
 cases e:ixN xs.length i with
 | none=>rw[e] at h;cases h
 | some j =>
  rw[e] at h
  obtain⟨h1,h2,h3,h4⟩:=wK e
  exact⟨j,h1,h,h2,h3,h4⟩
def wL(b:Expr):Prop:=∀o i,subscripted b false o i=operate [o,i] (getItem o i)
def IxR(X:Cx)(r:R2):Prop :=
 ∀(value slice:Expr) (pins:List (Addr×Obj)) (s:Shared) (σ:St) (H:Hp) (x y:V) (v u:Value) (Q:VK),Inv X pins σ H s->RelV x v->RelV y u->r x y H Q ->
  subscripted slice false v u=operate [v,u] (getItem v u)->wpAny (model X.prog X.w) X.A (subscriptTail value slice v u) (EP X pins σ Q) X.xe s
def MtR(X:Cx)(id:String)(r:V->List V->Hp->VK->Prop):Prop :=
 ∀(pins:List (Addr×Obj)) (s:Shared) (σ:St) (H:Hp) (x:V) (xs:List V) (v:Value) (us:List Value) (Q:VK),Inv X pins σ H s->RelV x v->Vals xs us->r x xs H Q ->
  wpAny (model X.prog X.w) X.A (call (.builtin id) (v::us)) (EP X pins σ Q) X.xe s
section
variable{X:Cx}{a b:Expr}{ta tb:TE}{pos:Pos}
theorem IxR.or{r r':R2}(h:IxR X r)(h':IxR X r'):IxR X (λx y H Q=>r x y H Q∨r' x y H Q):=by
 intro value slice pins s σ H x y v u Q I rx ry q hs
 rcases q with q|q
 ·exact h value slice pins s σ H x y v u Q I rx ry q hs
 ·exact h' value slice pins s σ H x y v u Q I rx ry q hs
theorem La{r:R2}(hr:IxR X r)(ha:PE X a ta)(hb:PE X b tb)(hs:wL b):PE X (.Subscript a b pos) (tOp r ta tb):=by
 intro pins s σ H Q I h
 exact Subscript_ (IF ha hb I h λv u s2 x y H2 I2 rx ry q=>hr a b pins s2 σ H2 x y v u Q I2 rx ry q (hs _ _))
def Lb(K:PySem.W.Frag):R2:=λx y H Q=>∃p xs i v,x=.ref p/\y=.int i/\SqL K H p xs/\atI xs i=some v/\Q v H
def Lc(K:PySem.W.Frag):R2:=λx y H Q=>∃p xs i v,x=.ref p/\y=.int i/\SqT K H p xs/\atI xs i=some v/\Q v H
def Le:R2:=λx y H Q=>∃z i c,x=.str z/\y=.int i/\z.length≤sizeLine/\atI z.cps.toList i=some c/\Q (.str ⟨#[c]⟩) H
theorem Fb:IxR X (Lb X.K):=by
 intro value slice pins s σ H x y v u Q I rx ry h hs
 obtain⟨p,xs,i,z,rfl,rfl,hq,he,q⟩:=h
 cases rx
 obtain⟨t,rfl⟩:=ry
 obtain⟨its,r,pl,hz⟩:=I.list hq
 obtain⟨j,h1,h2,h3,h4,h5⟩:=qj he
 obtain⟨w,ew,rw'⟩:=r.get h2
 have hl:=r.length
 have hn:=k6
 have fin:EP X pins σ Q w s:=⟨z,H,I,rw',q⟩
 by_cases h0:0≤i
 ·have hj:i.toNat=j:=by
   rw[seqIndex_of h0 h5] at h1
   exact Option.some.inj h1
  exact item_listR pl.isList h0 (by lia) (by rw[hj];simpa using ew) fin hs
 ·have hj:(i+(its.toArray.size:Int)).toNat=j:=by
   rw[seqIndex_neg (by lia) h4] at h1
   rw[List.size_toArray,← hl]
   exact Option.some.inj h1
  exact subscriptTail_builtinR (x:=w) pl.isList.typeIs slot_list_getitem.lookup
   (wpAny_getItem_list_neg (Q:=λr s'=>r=w/\EP X pins σ Q r s') pl.isList (by lia) (by rw[List.size_toArray]<;>lia) (by lia) (by rw[hj];simpa using ew) ⟨rfl,fin⟩) hs
theorem IS:IxR X (Lc X.K):=by
 intro value slice pins s σ H x y v u Q I rx ry h hs
 obtain⟨p,xs,i,z,rfl,rfl,hq,he,q⟩:=h
 cases rx
 obtain⟨t,rfl⟩:=ry
 obtain⟨its,r,pl,hz⟩:=I.tuple hq
 obtain⟨j,h1,h2,h3,h4,h5⟩:=qj he
 obtain⟨w,ew,rw'⟩:=r.get h2
 have hl:=r.length
 have hn:=k6
 have fin:EP X pins σ Q w s:=⟨z,H,I,rw',q⟩
 exact subscriptTail_builtinR (x:=w) pl.typeIs slot_tuple_getitem.lookup
  (getItem_tuple (j:=j) (Q:=λr s'=>r=w/\EP X pins σ Q r s') pl (by lia) (by lia) (by rw[List.size_toArray,← hl];exact h1) (by simpa using ew) ⟨rfl,fin⟩) hs
theorem IT:IxR X Le:=by
 intro value slice pins s σ H x y v u Q I rx ry h hs
 obtain⟨z,i,c,rfl,rfl,hz,he,q⟩:=h
 obtain⟨t,rfl⟩:=rx
 obtain⟨t',rfl⟩:=ry
 obtain⟨j,h1,h2,h3,h4,h5⟩:=qj he
 have hl:z.cps.toList.length=z.length:=by simp[Str.length]
 rw[hl] at h1 h4 h5
 have hn:=k6
 exact tail_any (typeIs_str s z t) slot_str_getitem.lookup (getItem_str (c:=c) (by
  have e1:decide (i< -(2 ^ 63:Int))=false:=decide_eq_false (by lia)
  have e2:decide (i ≥ 2 ^ 63)=false:=decide_eq_false (by lia)
  rw[e1,e2,Bool.or_false]) (by rw[h1];simpa using h2) ⟨.str ⟨#[c]⟩,H,I.tok _,⟨_,rfl⟩,q⟩) hs
def rIx(K:PySem.W.Frag):R2:=λx y H Q=>Lb K x y H Q∨Lc K x y H Q∨Le x y H Q
theorem IU:IxR X (rIx X.K):=Fb.or (IS.or IT)
theorem uS(its:List Value)(n j:Nat)(u:Value):Obj.mapSeq (·.setIfInBounds j u) { cls:=.type "list",data:=.seq its.toArray n }={ cls:=.type "list",data:=.seq (its.set j u).toArray n }:=by
 simp[Obj.mapSeq]
theorem Inv.lst{pins:List (Addr×Obj)}{σ:St}{H:Hp}{s:Shared}{p:Addr}{xs:List V}(I:Inv X pins σ H s)(h:H p=some (.lst xs)) :
  ∃(its:List Value) (n:Nat),Vals xs its/\s.heap.get? p=some { cls:=.type "list",data:=.seq its.toArray n }/\xs.length≤sizeLine:=by
 obtain⟨z,its,n,r,e⟩:=I.hok p _ h
 exact⟨its,n,r,e,z⟩
theorem Inv.IV{pins:List (Addr×Obj)}{σ:St}{H:Hp}{s:Shared}{p:Addr}{xs ys:List V}{its its':List Value}{n n':Nat}{f:Obj->Obj}(I:Inv X pins σ H s)(h:H p=some (.lst xs))
  (ho:s.heap.get? p=some { cls:=.type "list",data:=.seq its.toArray n }) (hf:f { cls:=.type "list",data:=.seq its.toArray n }={ cls:=.type "list",data:=.seq its'.toArray n' }) (r:Vals ys its') (hz:ys.length≤sizeLine) (t:Nat) :
  Inv X pins σ (upd H p (.lst ys)) { s with heap:=s.heap.update p f,toks:=t }:=by
 have e:(s.heap.update p f).get? p=some { cls:=.type "list",data:=.seq its'.toArray n' }:=by
  rw[Heap.get?_update_self f ho (by rw[hf]<;>rfl),hf]
 refine I.write (x:=p) (e:=p) (by rw[h];trivial) (.inl rfl) (λb u hb q=>(Heap.get?_update_other _ _ (Ne.symm hb)).trans q) ⟨_,e⟩ ?_
 exact⟨hz,its',n',r,e⟩
def Lh:V->V->V->Hp->(Hp->Prop)->Prop:=λo i v H Q=>∃p xs k j,o=.ref p/\i=.int k/\H p=some (.lst xs)/\ixN xs.length k=some j/\Q (upd H p (.lst (xs.set j v)))
theorem set_list:KW X Lh:=by
 intro pins s σ H o i v ov iv u Q I ro ri rv h
 obtain⟨p,xs,k,j,rfl,rfl,hp,hj,q⟩:=h
 cases ro
 obtain⟨t,rfl⟩:=ri
 obtain⟨its,n,r,ho,hz⟩:=I.lst hp
 obtain⟨h1,h2,h3,h4⟩:=wK hj
 have hl:=r.length
 have hn:=k6
 have I':Inv X pins σ (upd H p (.lst (xs.set j v))) { s with heap:=s.heap.update p (Obj.mapSeq (·.setIfInBounds j u)) } :=
  I.IV hp ho (uS its n j u) (r.set rv j) (by rw[List.length_set];exact hz) s.toks
 by_cases h0:0≤k
 ·have hk:k.toNat=j:=by
   rw[seqIndex_of h0 h4] at h1
   exact Option.some.inj h1
  exact PySem.W.ki_setAt ho h0 (by lia) (by rw[List.size_toArray,← hl];exact h4) (by rw[hk];exact⟨_,I',q⟩)
 ·have hk:(k+(its.toArray.size:Int)).toNat=j:=by
   rw[seqIndex_neg (by lia) h3] at h1
   rw[List.size_toArray,← hl]
   exact Option.some.inj h1
  exact PySem.W.ki_setBack ho (by lia) (by rw[List.size_toArray,← hl];exact h3) (by lia) (by rw[hk];exact⟨_,I',q⟩)
theorem qk:dg X (.builtin "len") (λxs H Q=>∃p ys,xs=[.ref p]/\(SqL X.K H p ys∨SqT X.K H p ys)/\Q (.int ys.length) H):=by
 intro pins s σ H xs us Q I r h
 obtain⟨p,ys,rfl,hq,q⟩:=h
 obtain⟨u,rfl,rx⟩:=vals1 r
 cases rx
 have hn:=k6
 rcases hq with hq|hq
 ·obtain⟨its,r',pl,hz⟩:=I.list hq
  have hlen:=r'.length
  exact Calls.call_len_list pl.isList (by simp only[List.size_toArray]<;>lia) ⟨.int ys.length,H,I.tok _,⟨s.toks+1,by rw[List.size_toArray,hlen]⟩,q⟩
 ·obtain⟨its,r',pl,hz⟩:=I.tuple hq
  have hlen:=r'.length
  exact len_tuple pl (by simp only[List.size_toArray]<;>lia) ⟨.int ys.length,H,I.tok _,⟨s.toks+1,by rw[List.size_toArray,hlen]⟩,q⟩
theorem ql:dg X (.builtin "len") (λxs H Q=>∃z,xs=[.str z]/\z.length≤sizeLine/\Q (.int z.length) H):=by
 intro pins s σ H xs us Q I r h
 obtain⟨z,rfl,hz,q⟩:=h
 obtain⟨u,rfl,t,rfl⟩:=vals1 r
 have hn:=k6
 exact len_str (by lia) ⟨.int z.length,H,I.tok _,⟨_,rfl⟩,q⟩
theorem dg.or{f:Value}{r r':List V->Hp->VK->Prop}(h:dg X f r)(h':dg X f r'):dg X f (λxs H Q=>r xs H Q∨r' xs H Q):=by
 intro pins s σ H xs us Q I rs q
 rcases q with q|q
 ·exact h pins s σ H xs us Q I rs q
 ·exact h' pins s σ H xs us Q I rs q
theorem oO:dg X (.type "tuple") (λxs H Q=>∃p ys,xs=[.ref p]/\((SqL X.K H p ys/\∀l,H l=none->Q (.ref l) (upd H l (.tup ys)))∨(SqT X.K H p ys/\Q (.ref p) H))):=by
 intro pins s σ H xs us Q I r h
 obtain⟨p,ys,rfl,h⟩:=h
 obtain⟨u,rfl,rx⟩:=vals1 r
 cases rx
 rcases h with ⟨hq,q⟩|⟨hq,q⟩
 ·obtain⟨its,r',pl,hz⟩:=I.list hq
  have hlen:=r'.length
  refine call_tuple_list pl.isList (λh' kp=>?_) (by simp only[List.size_toArray]<;>lia)
  have I1:Inv X pins σ H { s with heap:=h' }:=I.kept (t':=s.toks) kp
  have I2:Inv X pins σ (upd H h'.objs.size (.tup ys)) { s with heap:=h'.push { cls:=.type "tuple",data:=.seq its.toArray } } :=
   I1.laid (t':=s.toks) (λb o e=>Heap.get?_push_of_some _ e) (Nat.le_refl _) (show cS X.prog X.w _ _ _ (.tup ys) from ⟨hz,its,r',IsTup.new _ _⟩)
  exact⟨.ref h'.objs.size,_,I2,rfl,q _ (I1.hok.fresh (Nat.le_refl _))⟩
 ·obtain⟨its,r',pl,hz⟩:=I.tuple hq
  exact call_tuple_same pl ⟨.ref p,H,I,rfl,q⟩
def tyV(K:PySem.W.Frag)(T:String)(x:V)(H:Hp):Prop:=match x with
 | .str _=>T="str"
 | .int _=>T="int"
 | .ref p=>(T="list"/\∃xs,SqL K H p xs)∨(T="tuple"/\∃o,K.lookup p=some o/\o.cls=.type "tuple"/\o.dict=none) ∨
   (T="dict"/\((∃kvs,H p=some (.dK kvs))∨∃kvs,H p=some (.dT kvs)))∨(T="set"/\∃S n,H p=some (.set S n))
 | _=>False
theorem IW{pins:List (Addr×Obj)}{σ:St}{H:Hp}{s:Shared}{T:String}{x:V}{v:Value}(I:Inv X pins σ H s)(r:RelV x v)(ty:tyV X.K T x H) :
  s.TypeIs v T/\∀a,v=.ref a->∃ob,s.heap.get? a=some ob/\ob.dict=none:=by
 cases x with
 | str z =>
  obtain⟨t,rfl⟩:=r
  cases (show T="str" from ty)
  exact⟨typeIs_str s z t,λ_ e=>nomatch e⟩
 | int i =>
  obtain⟨t,rfl⟩:=r
  cases (show T="int" from ty)
  exact⟨typeIs_int s i t,λ_ e=>nomatch e⟩
 | ref p =>
  cases r
  rcases ty with ⟨rfl,xs,hq⟩|⟨rfl,o,hk,hc,hd⟩|⟨rfl,hk⟩|⟨rfl,S,n,hk⟩
  ·obtain⟨its,_,pl,_⟩:=I.list hq
   refine⟨pl.isList.typeIs,λa e=>?_⟩
   cases e
   obtain⟨o,n,e,c,hd,_⟩:=pl
   exact⟨o,e,hd⟩
  ·refine⟨⟨o,I.kIn p o hk,hc⟩,λa e=>?_⟩
   cases e
   exact⟨o,I.kIn _ o hk,hd⟩
  ·have z:∃o,s.heap.get? p=some o/\o.ExactDict:=by
    rcases hk with ⟨kvs,hk⟩|⟨kvs,hk⟩
    ·obtain⟨_,_,_,_,o,_,e,ex,_⟩:=I.hok p _ hk
     exact⟨o,e,ex⟩
    ·obtain⟨_,_,_,_,o,_,_,e,ex,_⟩:=I.hok p _ hk
     exact⟨o,e,ex⟩
   obtain⟨o,e,ex⟩:=z
   refine⟨⟨o,e,ex.1⟩,λa e2=>?_⟩
   cases e2
   exact⟨o,e,ex.2.1⟩
  ·obtain⟨o,_,_,_,e,ex,_⟩:=I.hok p _ hk
   refine⟨⟨o,e,ex.1⟩,λa e2=>?_⟩
   cases e2
   exact⟨o,e,ex.2.1⟩
 | _=>exact False.elim ty
def tBM(K:PySem.W.Frag)(T:String)(r:V->List V->Hp->VK->Prop)(to:TE)(t:TA):TE:=λσ H Q=>to σ H λx H1=>tyV K T x H1/\t σ H1 λxs H2=>r x xs H2 Q
variable{o e:Expr}{es:List Expr}{to:TE}{t:TA}{name:Str}{apos aP:Pos}{T id:String}{r:V->List V->Hp->VK->Prop}
theorem pg(pa:PlainAttrs T)(slot:Slot T name id)(hty:typeOf (.builtin id)=pure (.type "method_descriptor"))(hm:MtR X id r)(ho:PE X o to)(ha:PA X (e::es) t)
  (cf:attributeBase o name X.env (eval o X.env)=eval o X.env:=by rfl)
  (fb:((backTo aP (starEach (e::es) X.env)).all (λx=>!x.1) && (backToKw aP (keywordEach [] X.env)).all (λx=>x.1.isSome)
   && decide ((e::es).length+([]:List Keyword).length+(if ([]:List Keyword).isEmpty then 0 else 1)<30))=true:=by rfl)
  (cD:(apos.endLine==aP.line)=true:=by rfl) (hs:starEach (e::es) X.env=(false,eval e X.env)::starEach es X.env:=by rfl) (IX:(backTo aP (starEach es X.env)).any (·.1)=false:=by rfl) :
  PE X (.Call (.Attribute o name apos) (e::es) [] aP) (tBM X.K T r to t):=by
 intro pins s σ H Q I h
 refine wpAny_Call_method_late cf fb cD rfl (thn (ho pins s σ H _ I h) λv s1 ao=>?_)
 obtain⟨x,H1,I1,r1,ty,q1⟩:=ao
 obtain⟨h1,h2⟩:=IW I1 r1 ty
 refine⟨T,id,pa,slot,hty,h1,h2,?_⟩
 have hA:=ha aP pins s1 σ H1 _ I1 q1
 rw[hs] at hA ⊢
 refine Calls.callWith_builtin (by show(false || (backTo aP (starEach es X.env)).any (·.1))=false;rw[IX]<;>rfl) (Calls.evalArgs_plain ?_)
 exact thn hA λus s2 ⟨vs,H2,I2,r2,q2⟩=>hm pins s2 σ H2 x vs v us Q I2 r1 r2 q2
end
def MtM(X:Cx)(id:String)(r:V->List V->Hp->VK->Prop):Prop :=
 ∀(pins:List (Addr×Obj)) (s:Shared) (σ:St) (H:Hp) (x:V) (xs:List V) (v:Value) (us:List Value) (Q:VK),Inv X pins σ H s->RelV x v->Vals xs us->r x xs H Q ->
  wpAny (model X.prog X.w) X.A (call (.builtin id) (v::us)) (EP X pins σ Q) X.xe s
theorem Vals.one:∀{x:V}{us:List Value},Vals [x] us->∃u,us=[u]/\RelV x u
 | _,_,.cons r .nil=>⟨_,rfl,r⟩
theorem Vals.dropLast{xs:List V}{us:List Value}(h:Vals xs us):Vals xs.dropLast us.dropLast:=by
 induction h with
 | nil=>exact .nil
 | cons r t ih =>
  cases t with
  | nil=>exact .nil
  | cons q t'=>exact .cons r ih
theorem Vals.reverse{xs:List V}{us:List Value}(h:Vals xs us):Vals xs.reverse us.reverse:=by
 induction h with
 | nil=>exact .nil
 | cons r t ih=>rw[List.reverse_cons,List.reverse_cons];exact Vals.append ih (.cons r .nil)
theorem Vals.rep{xs:List V}{us:List Value}(h:Vals xs us):∀k:Nat,Vals (List.replicate k xs).flatten (List.replicate k us).flatten
 | 0=>.nil
 | k+1=>by
  rw[List.replicate_succ,List.replicate_succ,List.flatten_cons,List.flatten_cons]
  exact Vals.append h (Vals.rep h k)
theorem foldl_rep(its:List Value):∀(k:Nat) (acc:List Value),
  List.foldl (λx1 x2=>x1++x2) acc.toArray (List.replicate k its.toArray)=(acc++(List.replicate k its).flatten).toArray
 | 0,acc=>by simp
 | k+1,acc=>by
  have e:acc.toArray++its.toArray=(acc++its).toArray:=by simp
  have e2:(acc++its)++(List.replicate k its).flatten=acc++(List.replicate (k+1) its).flatten:=by
   rw[List.replicate_succ,List.flatten_cons,List.append_assoc]
  rw[← e2,← foldl_rep its k (acc++its),← e,List.replicate_succ,List.foldl_cons]
section
variable{X:Cx}{pins:List (Addr×Obj)}{σ:St}{H:Hp}{s:Shared}{l b:Addr}{xs ys zs:List V}
theorem Inv.Li{its its':List Value}{n:Nat}{f:Array Value->Array Value}{t':Nat}(I:Inv X pins σ H s)(hH:H l=some (.lst xs))
  (e:s.heap.get? l=some { cls:=.type "list",data:=.seq its.toArray n }) (hf:f its.toArray=its'.toArray) (hv:Vals ys its') (hz:ys.length≤sizeLine) :
  Inv X pins σ (upd H l (.lst ys)) { s with heap:=s.heap.update l (Obj.mapSeq f),toks:=t' }:=by
 have q:=PySem.IsL.update e f
 rw[hf] at q
 refine I.write (x:=l) (e:=l) (by rw[hH];exact trivial) (.inl rfl) (λb' u hb hu=>(Heap.get?_update_other s.heap (Obj.mapSeq f) (Ne.symm hb)).trans hu) ⟨_,q⟩ ?_
 exact⟨hz,its',_,hv,q⟩
theorem Inv.yh{its:List Value}{t':Nat}(I:Inv X pins σ H s)(hv:Vals ys its)(hz:ys.length≤sizeLine) :
  Inv X pins σ (upd H s.heap.objs.size (.lst ys)) { s with heap:=s.heap.push { cls:=.type "list",data:=.seq its.toArray },toks:=t' } :=
 I.laid (λ_ _ q=>Heap.get?_push_of_some _ q) (Nat.le_refl _) ⟨hz,its,0,hv,Heap.get?_push_size _ rfl⟩
theorem Inv.fresh(I:Inv X pins σ H s):H s.heap.objs.size=none:=I.hok.fresh (Nat.le_refl _)
theorem Inv.IY(I:Inv X pins σ H s)(hH:H l=some (.lst xs)):xs.length≤sizeLine/\∃(its:List Value) (n:Nat),Vals xs its/\xs.length=its.length/\s.heap.get? l=some { cls:=.type "list",data:=.seq its.toArray n }:=by
 obtain⟨z,its,n,r,e⟩:=I.hok l _ hH
 exact⟨z,its,n,r,r.length,e⟩
theorem sj{n:Nat}(h:n≤sizeLine):Builtin.List.listTooLong n=false:=by
 unfold Builtin.List.listTooLong
 exact decide_eq_false (by lia)
end
section
variable{X:Cx}
def wM:V->List V->Hp->VK->Prop:=λx vs H Q=>∃l xs y,x=.ref l/\vs=[y]/\H l=some (.lst xs)/\xs.length<sizeLine/\Q .non (upd H l (.lst (xs++[y])))
theorem ph:MtM X "list.append" wM:=by
 intro pins s σ H x vs v us Q I rx rv h
 obtain⟨l,xs,y,rfl,rfl,hH,hz,q⟩:=h
 cases rx
 obtain⟨u,rfl,ru⟩:=rv.one
 obtain⟨z,its,n,r,hl,e⟩:=I.IY hH
 refine call_meets F.slot_list_append ⟨_,e,rfl⟩ F.entry_list_append (F.args_list_append_2 _ _) (PySem.list_append l its.toArray n u (by rw[List.size_toArray];lia)) ⟨e,?_⟩
 refine⟨.non,_,I.Li (its':=its++[u]) hH e (by simp) (r.append (.cons ru .nil)) ?_,rfl,q⟩
 rw[List.length_append,List.length_singleton]
 lia
def M5:R2:=λx y H Q=>∃l k xs,x=.ref l/\y=.int k/\H l=some (.lst xs)/\-(2 ^ 63)≤k/\k<2 ^ 63/\xs.length*k.toNat≤sizeLine /\
 ∀p,H p=none->Q (.ref p) (upd H p (.lst (List.replicate k.toNat xs).flatten))
theorem len_rep{α:Type}(xs:List α)(k:Nat):(List.replicate k xs).flatten.length=k*xs.length:=by
 induction k with
 | zero=>simp
 | succ k ih=>rw[List.replicate_succ,List.flatten_cons,List.length_append,ih,Nat.succ_mul,Nat.add_comm]
theorem IZ:OpR X (binaryOp .Mult) M5:=by
 intro pins s σ H x y v u Q I rx ry h
 obtain⟨l,k,xs,rfl,rfl,hH,h1,h2,hz,q⟩:=h
 cases rx
 obtain⟨t,rfl⟩:=ry
 obtain⟨z,its,n,r,hl,e⟩:=I.IY hH
 have hlen:its.toArray.size*k.toNat≤sizeLine:=by rw[List.size_toArray,← hl];exact hz
 have M6:¬ its.toArray.size*k.toNat > (2 ^ 63-1) / 8:=by
  have:(sizeLine:Nat)≤(2 ^ 63-1) / 8:=by decide
  lia
 have M7:¬ (!Builtin.List.listFitsIndex k)=true:=by
  rw[fitsIndex_both h1 h2]
  exact Bool.false_ne_true
 have Bb:¬ Builtin.List.listTooLong (its.toArray.size*k.toNat)=true:=by
  rw[sj hlen]
  exact Bool.false_ne_true
 have I_:List.foldl (λx1 x2=>x1++x2) #[] (List.replicate (if its.toArray.isEmpty=true then 0 else k.toNat) its.toArray)=(List.replicate k.toNat its).flatten.toArray:=by
  have f0:∀m:Nat,List.foldl (λx1 x2=>x1++x2) #[] (List.replicate m its.toArray)=(List.replicate m its).flatten.toArray:=λm=>by
   have:=foldl_rep its m []
   rw[List.nil_append] at this
   exact this
  rw[f0]
  cases its with
  | nil=>simp
  | cons a r'=>rw[if_neg (by simp)]
 refine wpAny_binaryOp_repeat_ref (T:="list") (U:="int") (by decide) ⟨_,e,rfl⟩ (λs'=>typeIs_int s' k t) noFill_list_mul F.fills_int_mul F.slot_int_rmul repeat_list F.slot_int_index.lookup
  (call_meets F.slot_int_rmul (typeIs_int s k t) F.entry_int_rmul (F.args_int_rmul_2 _ _) (int___rmul___int_list k t l its.toArray n)
   ⟨e,rfl,⟨_,e,rfl⟩,call_meets F.slot_list_mul ⟨_,e,rfl⟩ F.entry_list_mul (F.args_list_mul_2 _ _) (AutoListH.list___mul___list_int_3 l its.toArray n k t M7 M6 Bb) ⟨e,?_⟩⟩)
 rw[I_]
 exact⟨.ref _,_,I.yh (t':=s.toks) (r.rep k.toNat) (by rw[len_rep,Nat.mul_comm];exact hz),rfl,q _ I.fresh⟩
end
section
variable{prog:Program}{w:World}{A:Around}{E:Value->Shared->Prop}{s:Shared}
end
section
variable{X:Cx}
end
section
variable{κ:Type}[DecidableEq κ]
def lX(kvs:List (κ×V))(k:κ):Option V:=(kvs.find? λkv=>decide (kv.1=k)).map (·.2)
def putK(kvs:List (κ×V))(k:κ)(v:V):List (κ×V) :=
 if (kvs.any λkv=>decide (kv.1=k))=true then kvs.map (λkv=>if kv.1=k then (kv.1,v) else kv) else kvs++[(k,v)]
def HD(kvs:List (κ×V))(k:κ):List (κ×V):=kvs.filter λkv=>decide (kv.1≠k)
theorem mL{p:κ×V}{r:List (κ×V)}{k:κ}(e:p.1=k):lX (p::r) k=some p.2:=by simp[lX,List.find?_cons,e]
theorem mM{p:κ×V}{r:List (κ×V)}{k:κ}(e:¬ p.1=k):lX (p::r) k=lX r k:=by simp[lX,List.find?_cons,e]
theorem xV.getD{o:Option V}{u:Option Value}{d:V}{d':Value}(r:xV o u)(rd:RelV d d'):RelV (o.getD d) (u.getD d'):=by
 cases o with
 | none=>cases u with
  | none=>exact rd
  | some _=>exact(show False from r).elim
 | some _=>cases u with
  | none=>exact(show False from r).elim
  | some _=>exact r
theorem KV.val{kvs:List (κ×V)}{vs:List (κ×Value)}(r:KV kvs vs)(k:κ):xV (lX kvs k) (valueAt vs k):=by
 unfold KV at r
 induction r with
 | nil=>exact True.intro
 | @cons p q ps qs h t ih =>
  obtain⟨h1,h2⟩:=h
  by_cases e:p.1=k
  ·have e':q.1=k:=h1.symm.trans e
   have b:valueAt (q::qs) k=some q.2:=by simp[valueAt,List.find?_cons,e']
   rw[mL e,b];exact h2
  ·have e':¬ q.1=k:=λz=>e (h1.trans z)
   have b:valueAt (q::qs) k=valueAt qs k:=by simp[valueAt,List.find?_cons,e']
   rw[mM e,b];exact ih
theorem KV.drop{kvs:List (κ×V)}{vs:List (κ×Value)}(r:KV kvs vs)(k:κ):KV (HD kvs k) (without vs k):=by
 unfold KV at r ⊢
 unfold HD without
 induction r with
 | nil=>exact .nil
 | @cons p q ps qs h t ih =>
  obtain⟨h1,h2⟩:=h
  rw[List.filter_cons,List.filter_cons]
  by_cases e:p.1=k
  ·have a:¬ decide (p.1≠k)=true:=by simp[e]
   have b:¬ decide (q.1≠k)=true:=by simp[h1.symm.trans e]
   rw[if_neg a,if_neg b];exact ih
  ·have e':¬ q.1=k:=λz=>e (h1.trans z)
   have a:decide (p.1≠k)=true:=by simp[e]
   have b:decide (q.1≠k)=true:=by simp[e']
   rw[if_pos a,if_pos b];exact .cons ⟨h1,h2⟩ ih
theorem KV.length{kvs:List (κ×V)}{vs:List (κ×Value)}(r:KV kvs vs):kvs.length=vs.length:=Paired.length r
end
abbrev KT(H:Hp):List (List Key×V)->List (List Key×Addr×Value)->Prop:=Paired λp q=>p.1=q.1/\H q.2.1=some (.tup (p.1.map kV))/\RelV p.2 q.2.2
theorem KT.val{H:Hp}{kvs:List (List Key×V)}{xs:List (List Key×Addr×Value)}(r:KT H kvs xs)(k:List Key):xV (lX kvs k) ((atKey xs k).map (·.2)):=by
 induction r with
 | nil=>exact True.intro
 | @cons p q ps qs h t ih =>
  obtain⟨h1,_,h2⟩:=h
  by_cases e:p.1=k
  ·have e':q.1=k:=h1.symm.trans e
   have b:atKey (q::qs) k=some q.2:=by simp[atKey,List.find?_cons,e']
   rw[mL e,b];exact h2
  ·have e':¬ q.1=k:=λz=>e (h1.trans z)
   have b:atKey (q::qs) k=atKey qs k:=by simp[atKey,List.find?_cons,e']
   rw[mM e,b];exact ih
section
variable{P:Program}{w:World}{H:Hp}{h:Heap}{a:Addr}
theorem Lj{u:HO}(ok:HOk P w H h)(e:Rd H a u):cS P w H h a u:=e.ok ok
theorem Lk{kvs:List (Key×V)}(ok:HOk P w H h)(e:Rd H a (.dK kvs)):kvs.length≤sizeLine/\(a==sysModules)=false/\∃vs,KV kvs vs/\h.DictOf (qb P w) a vs :=
 let ⟨z,y,vs,r,d⟩:=(show cS P w H h a (.dK kvs) from Lj ok e);⟨z,y,vs,r,d.dictOf⟩
end
def Ll(H:Hp)(a:Addr)(y:V)(r:Option V):Prop :=
 (∃kvs k,Rd H a (.dK kvs)/\y=kV k/\r=lX kvs k)∨∃kvs k b,Rd H a (.dT kvs)/\y=.ref b/\H b=some (.tup (k.map kV))/\r=lX kvs k
def Lm(H:Hp)(a:Addr)(y v:V)(H':Hp):Prop :=
 (∃kvs k,H a=some (.dK kvs)/\y=kV k/\kvs.length<sizeLine/\H'=upd H a (.dK (putK kvs k v))) ∨
 ∃kvs k b,H a=some (.dT kvs)/\y=.ref b/\H b=some (.tup (k.map kV))/\kvs.length<sizeLine/\H'=upd H a (.dT (putK kvs k v))
theorem Ll.t{H:Hp}{a b:Addr}{kvs:List (List Key×V)}{k:List Key}(e:H a=some (.dT kvs))(eb:H b=some (.tup (k.map kV))):Ll H a (.ref b) (lX kvs k):=.inr ⟨kvs,k,b,.inl e,rfl,eb,rfl⟩
theorem Lm.t{H:Hp}{a b:Addr}{kvs:List (List Key×V)}{k:List Key}{v:V}(e:H a=some (.dT kvs))(eb:H b=some (.tup (k.map kV)))(hl:kvs.length<sizeLine) :
  Lm H a (.ref b) v (upd H a (.dT (putK kvs k v))):=.inr ⟨kvs,k,b,e,rfl,eb,hl,rfl⟩
section
variable{X:Cx}{pins:List (Addr×Obj)}{σ:St}{H:Hp}{s:Shared}{a:Addr}{y v:V}{u r:Value}{o:Option V}{A:Around}{E:Value->Shared->Prop}
end
section
variable{X:Cx}{pins:List (Addr×Obj)}{σ:St}{H:Hp}{s:Shared}{a:Addr}{kvs:List (Key×V)}{k:Key}{u:Value}{A:Around}{E:Value->Shared->Prop}
theorem Ln{Q:Value->Shared->Prop}(I:Inv X pins σ H s)(e:Rd H a (.dK kvs))(h:∀t s',Inv X pins σ H s'->Q (.int kvs.length t) s'):wpAny (model X.prog X.w) A (call (.builtin "len") [.ref a]) Q E s:=by
 obtain⟨z,hd,vs,rel,dd⟩:=Lk I.hok e
 refine call_len_dict hd dd (by rw[← rel.length];rw[sizeLine_eq] at z;lia) ?_
 rw[← rel.length]
 exact h _ _ (I.tok _)
end
section
variable{X:Cx}{o i e value:Expr}{pos pos' qh:Pos}{td ty tv:TE}
end
section
variable{X:Cx}{pos:Pos}
end
section
variable{X:Cx}{pins:List (Addr×Obj)}{σ:St}{H:Hp}{s:Shared}{a:Addr}{y d:V}{u r:Value}{o:Option V}{A:Around}{E:Value->Shared->Prop}
end
section
variable{X:Cx}{o e f:Expr}{apos aP:Pos}{td ty tx:TE}
end
section
variable{X:Cx}{pins:List (Addr×Obj)}{σ:St}{H:Hp}{s:Shared}{a:Addr}{kvs:List (Key×V)}{A:Around}{E:Value->Shared->Prop}
end
section
variable{X:Cx}{pins:List (Addr×Obj)}{σ:St}{H:Hp}{s:Shared}{a:Addr}{y:V}{u:Value}{A:Around}{E:Value->Shared->Prop}
end
end L2
namespace Att
open PySem PySem.W PySem.Calls PyProof.Rows
theorem lY{P:Params}{h:Heap}:∀(ns:List Int) (vs:List Value),WellAll P h vs (ns.map WData.int)->IntsAre vs ns:=by
 intro ns
 induction ns with
 | nil =>
  intro vs w
  rw[List.map_nil] at w
  cases w
  exact .nil
 | cons n ns ih =>
  intro vs w
  rw[List.map_cons] at w
  cases w with
  | cons a b =>
   cases a
   exact .cons _ _ (ih _ b)
theorem yi{l:OpenLaw}{n:Nat}(hn:l.most=some n){P:Params}{h:Heap}{args:List WData}{vals:List Value}
  (Fc:l.row.toRowW.claim.pre args=true) (hwl:WellAll P h vals args) :
  ∃a vs ns,vals=[Value.ref a]/\args=[WData.list (ns.map WData.int)]/\h.get? a=some { cls:=.type "list",data:=.seq vs.toArray }/\IntsAre vs ns/\ns.length≤n:=by
 have hsh:WShape.hasAll [] args [.list .int]=true:=(pre_splitW Fc).1
 have hc:l.pre.holds [] { args:=args }=true:=(pre_splitW Fc).2
 obtain⟨d,r,rfl,h1,h2⟩:=hasAllW_cons hsh
 obtain rfl:=hasAllW_nil h2
 obtain⟨xs,rfl,h3⟩:=hasW_list h1
 obtain⟨ns,rfl⟩:=items_int h3
 have hlen:ns.length≤n:=by
  unfold OpenLaw.pre at hc
  have h4:(WTm.not (.lt (.lit (.int (n:Int))) (.len (.arg 0)))).holds [] { args:=[.list (ns.map .int)] }=true:=by
   have h4:=(holds_andW hc).1
   rw[hn] at h4
   exact h4
  have h5:=condW_of h4 (w_not (w_lt w_lit (w_len_list (w_arg rfl))))
  rw[List.length_map] at h5
  refine Nat.le_of_not_lt λq=>?_
  have q':(n:Int)<((ns.length:Nat):Int):=by lia
  first
   | (rw[decide_eq_true q'] at h5;exact absurd h5 (by decide))
   | (simp at h5;lia)
 cases hwl with
 | cons w1 w2 =>
  cases w2
  cases w1 with
  | list ho Ja=>exact⟨_,_,ns,rfl,rfl,ho,lY ns _ Ja,hlen⟩
theorem yk(l:OpenLaw)(args:List WData):l.row.toRowW.claim.post args (.bool true) args=true :=
 postW_of (r:=l.row.toRowW) (X:=(true==true))
  (show WShape.has [] (.bool true) .bool=true by first|rfl|decide|simp[WShape.has,WShape.arms,WShape.armsAll])
  (show(WTm.eq .res (.lit (.bool true))).value [] { args:=args,res:=some (.bool true),after:=args }=some (.bool (true==true)) from w_eq_bool (w_res rfl) w_lit) rfl
theorem sk{l:OpenLaw}{n:Nat}{q:Program}{loose:List Str}{XP:(Str->Option Value)->Heap->Prop}{YP:World->Heap->Prop}{d:DefRec}
  (hn:l.most=some n) (hdf:d.params.defaults=[])
  (call:∀(w:World) (s₀ s₁:Shared) (mg mb:Str->Option Value) (fa:Addr) (o:Obj) (pm cd doc:Value) (a:Addr) (vs:List Value) (ns:List Int),
   Ground q loose [] XP w s₀ mg mb s₁.heap->YP w s₁.heap ->
   s₁.heap.get? fa=some o->o.data=.func (docDef d.name d.params d.body d.scope pm cd doc)->s₁.heap.CodeRec cd d.name->mg d.name=some (.ref fa) ->
   s₁.heap.get? a=some { cls:=.type "list",data:=.seq vs.toArray }->IntsAre vs ns->ns.length≤n->s₁.gens=#[] ->
   codeAny (model l.prog w) callerA (.call (.ref fa) ⟨[.ref a],[]⟩) (λr s'=>r=.ok (.ret (.bool true))/\OldK s₁.heap s'.heap/\s'.os=s₁.os/\AllBare s'.gens) s₁) :
  WalkO q loose XP YP l.row.toRowW d [] (λf vs=>PySem.call f vs):=by
 intro w s₀ s₁ mg mb G Y fa o pm cd doc dV kV ho hd hcd hD hmg hg args vals as Fc Nx hrd hwl hlo
 obtain rfl:dV=.none:=Dflts.none hD hdf
 obtain rfl:kV=.none:=Dflts.noKw hD
 obtain⟨a,vs,ns,rfl,rfl,Jb,hints,hlen⟩:=yi hn Fc hwl
 refine enter_call (codeAny_mono (call w s₀ s₁ mg mb fa o pm cd doc a vs ns G Y ho (fd_plain hd) hcd hmg Jb hints hlen hg) λr s' hq=>?_)
 obtain⟨rfl,h2,h3,h4⟩:=hq
 exact⟨.inl ⟨.bool true,.bool true,[],rfl,λ_=>rfl,.bool true,yk l _,λ_=>⟨List.Pairwise.nil,λ_ hm=>(nomatch hm)⟩⟩,h2,h3,h4⟩
section
variable{prog:Program}{w:World}{A:Around}{E:Value->Shared->Prop}{s:Shared}{K:Frag}
end
end Att
namespace L2
open PySem PySem.Spec PyProof.Rows
theorem pj:∀{vs:List Value}{ns:List Int},IntsAre vs ns->Vals (ns.map V.int) vs
 | _,_,.nil=>.nil
 | _,_,.cons n t h=>.cons ⟨t,rfl⟩ (pj h)
def Fe(H:Hp):Prop:=∀b,H b=none∨∃o xs,H b=some (.frz o (.lst xs))
theorem Bc{P:Program}{w:World}{K:PySem.W.Frag}{mg mb:Str->Option Value}{CX:CXT}{k:Nat}{fa a:Addr}{fd:FuncData}{x:Str}{sp:Sp}{s₁:Shared}{vs:List Value}{ns:List Int}
  (KX:K.In s₁.heap) (hns:s₁.heap.Ns mainGlobals mg) (hb:s₁.heap.Ns builtinsNs mb) (hbb:∀x:Str,x≠"__name__"->mb x=bootBuiltins x) (M8:s₁.heap.NoLimit) (hg:s₁.gens=#[])
  (ha:s₁.heap.get? a=some { cls:=.type "list",data:=.seq vs.toArray }) (hi:IntsAre vs ns) (hl:ns.length≤sizeLine) (hr:dP k callerA)
  (F:∀base:Heap,K.In base->base.Ns mainGlobals mg->gb P w K mg base CX k fa fd [x] sp) (Lo:∀(s:Shared) (u:Value),BindsTo s fd ⟨[u],[]⟩ [(x,u)])
  (hsp:∀H:Hp,Fe H->SqL K H a (ns.map V.int)->sp [.ref a] H (λv _=>v=.bl true) λ_ _ _=>False)
  (hCX:∀H e s',CX [] H s₁ (λ_ _ _=>False) e s'->False) :
  codeAny (model P w) callerA (.call (.ref fa) ⟨[.ref a],[]⟩) (λr s'=>r=.ok (.ret (.bool true))/\OldK s₁.heap s'.heap/\s'.os=s₁.os/\AllBare s'.gens) s₁:=by
 have rv:=pj hi
 have M9:=hi.length
 have core:∀H:Hp,Fe H->SqL K H a (ns.map V.int)->HOk P w H s₁.heap->(∀b,H b≠none->b=a)->(H a≠none->K.lookup a=none) ->
   codeAny (model P w) callerA (.call (.ref fa) ⟨[.ref a],[]⟩) (λr s'=>r=.ok (.ret (.bool true))/\OldK s₁.heap s'.heap/\s'.os=s₁.os/\AllBare s'.gens) s₁:=by
  intro H hO hS hok hA hK
  have wN:∀{b:Addr}{o:Obj},s₁.heap.get? b=some o->H b=none->(qc s₁.heap H).get? b=some o:=λe n=>AJ e n
  have noA:∀{b:Addr}{o:Obj}{es:Array DictEntry}{ep:Nat},s₁.heap.get? b=some o->o.data=.dict es ep->H b=none:=λ{b o es ep} e d=>by
   cases q:H b with
   | none=>rfl
   | some u =>
    have e':b=a:=hA b (by rw[q];simp)
    subst e'
    rw[ha] at e;cases e
    have d':Data.seq vs.toArray _=Data.dict es ep:=d
    cases d'
  have nsK:∀{b:Addr}{m:Str->Option Value},s₁.heap.Ns b m->(qc s₁.heap H).Ns b m:=λ{b m} ⟨o,es,ep,e,d,r⟩=>⟨o,es,ep,wN e (noA e d),d,r⟩
  have hKb:K.In (qc s₁.heap H):=λb o e=>wN (KX b o e) (by
   cases q:H b with
   | none=>rfl
   | some u =>
    have e':b=a:=hA b (by rw[q];simp)
    subst e'
    rw[hK (by rw[q];simp)] at e;cases e)
  have hM:Mod K mg (qc s₁.heap H):=⟨hKb,nsK hns,⟨mb,nsK hb,hbb⟩,let ⟨mc,h1,h2⟩:=M8;⟨mc,nsK h1,h2⟩⟩
  have e0:E3 P w K mg (qc s₁.heap H) callerA [] s₁ H:=⟨rfl,hM,λb o e=>EU e,Nat.le_of_eq (xW _ _),trivial,λb hb=>absurd (show b∈([]:List Addr) from hb) (by simp),hok,.of_eq hg⟩
  refine codeAny_mono ((F _ hKb (nsK hns)).run callerA [] s₁ H ⟨[.ref a],[]⟩ [.ref a] [.ref a] _ _ hr e0 (Lo s₁ (.ref a)) (.cons rfl .nil) (hsp H hO hS)) λr s' h=>?_
  cases r with
  | error e=>exact(hCX H e s' h).elim
  | ok fl =>
   cases fl with
   | next=>exact False.elim h
   | brk=>exact False.elim h
   | cont=>exact False.elim h
   | ret u =>
    obtain⟨v,H',os,bare,un,M_,r',q⟩:=h
    have q':v=.bl true:=q
    subst q'
    obtain rfl:u=Value.bool true:=r'
    refine⟨rfl,OldK.of_keep λb o e=>?_,os,bare⟩
    cases q:H b with
    | none=>exact un.keep b o e q (by intro z;exact absurd (show b∈([]:List Addr) from z) (by simp)) (by simp)
    | some u =>
     rcases hO b with z|⟨ob,xs,z⟩
     ·rw[q] at z;cases z
     ·have z2:=un.bS b ob _ z
      obtain⟨e1,_⟩:=hok b _ z
      obtain⟨e2,_⟩:=M_ b _ z2
      rw[e] at e1;cases e1
      exact e2
 cases hk:K.lookup a with
 | some o =>
  have e:=KX a o hk
  rw[ha] at e
  cases e
  refine core (λ_=>none) (λ_=>.inl rfl) (.inr ⟨_,vs.toArray,_,hk,rfl,rfl,rfl,by rw[List.size_toArray,M9];exact hl,by simpa using rv⟩) (λb u z=>by have z':(none:Option HO)=some u:=z;cases z') (λb z=>absurd rfl z) λz=>absurd rfl z
 | none =>
  refine core (λb=>if b=a then some (.frz { cls:=.type "list",data:=.seq vs.toArray } (.lst (ns.map V.int))) else none) (λb=>?_) (.inl (.inr ⟨{ cls:=.type "list",data:=.seq vs.toArray },if_pos rfl⟩)) (λb u z=>?_) (λb z=>?_) λ_=>hk
  ·by_cases hb:b=a
   ·exact .inr ⟨_,_,if_pos hb⟩
   ·exact .inl (if_neg hb)
  ·by_cases hb:b=a
   ·have z':=(if_pos hb).symm.trans z
    cases z'
    subst hb
    exact⟨ha,by rw[List.length_map];exact hl,vs,_,rv,ha⟩
   ·have z':=(if_neg hb).symm.trans z
    cases z'
  ·by_cases hb:b=a
   ·exact hb
   ·exact absurd (if_neg hb) z
theorem Ff{l:PySem.W.OpenLaw}{n k:Nat}{q:Program}{loose:List Str}{XP:(Str->Option Value)->Heap->Prop}{YP:World->Heap->Prop}{d:DefRec}{K:Params->PySem.W.Frag}{CX:World->CXT}{sp:World->Sp}{x:Str}
  (hn:l.most=some n) (hn2:n≤sizeLine) (hdf:d.params.defaults=[]) (hr:dP k callerA)
  (hY:∀(w:World) (h:Heap),YP w h->(K w.params).In h)
  (F:∀(w:World) (mg:Str->Option Value) (fa:Addr) (h:Heap),(K w.params).In h->h.Ns mainGlobals mg->mg d.name=some (.ref fa) ->
   ∃fd:FuncData,(∀(s:Shared) (u:Value),BindsTo s fd ⟨[u],[]⟩ [(x,u)]) /\
    ∀base:Heap,(K w.params).In base->base.Ns mainGlobals mg->gb l.prog w (K w.params) mg base (CX w) k fa fd [x] (sp w))
  (hsp:∀(w:World) (H:Hp) (a:Addr) (ns:List Int),ns.length≤n->Fe H->SqL (K w.params) H a (ns.map V.int)->sp w [.ref a] H (λv _=>v=.bl true) λ_ _ _=>False)
  (hCX:∀(w:World) (H:Hp) (s:Shared) (e:Value) (s':Shared),CX w [] H s (λ_ _ _=>False) e s'->False) :
  PySem.W.WalkO q loose XP YP l.row.toRowW d [] (λf vs=>PySem.call f vs):=by
 refine Att.sk hn hdf λw s₀ s₁ mg mb fa o pm cd doc a vs ns G Y ho hd hcd hmg Jb hints hlen hg=>?_
 have KX:=hY w _ Y
 obtain⟨fd,hb,hF⟩:=F w mg fa _ KX G.T.g hmg
 exact Bc KX G.T.g G.T.b G.T.builtins G.T.nolimit hg Jb hints (Nat.le_trans hlen hn2) hr hF hb (λH hO hS=>hsp w H a ns hlen hO hS) λH e s'=>hCX w H s₁ e s'
end L2
namespace L2
open PySem PySem.Spec PyProof.Rows
def fD(s:Stmt):Arguments:=match s with
 | .FunctionDef _ a _ _ _ _ _ _ _ _=>a
 | _=>{ posonlyargs:=[],args:=[],vararg:=none,kwonlyargs:=[],kw_defaults:=[],kwarg:=none,defaults:=[] }
def dZ(s:Stmt):List Stmt:=match s with
 | .FunctionDef _ _ b _ _ _ _ _ _ _=>b
 | _=>[]
def aw(s:Stmt):Scope:=match s with
 | .FunctionDef _ _ _ _ _ _ sc _ _ _=>sc
 | _=>{ kind:=.function,names:=[],isGenerator:=false,isCoroutine:=false }
abbrev CX0:CXT:=λ_ _ _ _ _ _=>False
abbrev E0:XK:=λ_ _ _=>False
theorem Lp{X:Cx}:Passes CX0 X E0:=λ_ _ _ _ _ _ _ h=>h.elim
structure Fun(K:PySem.W.Frag)(x qual:Str)(st:Stmt)(f:Addr)(fd:FuncData):Prop where
 ex:∃(oc:Value) (od:Option Addr) (kV doc pm:Value) (an:Option Addr) (cdv ct:Value) (osl:Array (Option Value)),
  fd=PySem.W.fnOf x qual (fD st) (dZ st) (aw st) .none kV doc pm an cdv ct/\K.lookup f=some ⟨oc,od,.func fd,osl⟩/\PySem.W.codeIn K cdv qual=true
 kp:PySem.W.keepIn K (.ref f)=true
section
variable{P:Program}{w:World}{K:PySem.W.Frag}{mg:Str->Option Value}{base:Heap}
theorem Fun.ok{x qual:Str}{st:Stmt}{f:Addr}{fd:FuncData}{N ps:List Str}{k:Nat}{sp:Sp}(F:Fun K x qual st f fd)(S:aY N ps (aw st))(len:∀vs H Q E,sp vs H Q E->vs.length=ps.length)
  (A_:∀(cdv:Value) (A:Around) (outer:List Env) (s:Shared) (H:Hp) (vs:List V) (Q:VK) (E:XK),dP k (A.deeper (envOfC qual (aw st) s.heap.objs.size f cdv))->sp vs H Q E ->
   ∃t,PSs (j8 CX0 P w K mg base N qual (aw st) f cdv A outer s H E).nox (dZ st) t/\t { nx:=λ_ H'=>Q .non H',rt:=Q } (start N vs) H):gb P w K mg base CX0 (k+1) f fd ps sp:=by
 obtain⟨oc,od,kV,doc,pm,an,cdv,ct,osl,rfl,lk,hcd⟩:=F.ex
 refine HC lk hcd S len λA outer s H vs Q E hr hsp=>?_
 obtain⟨t,h,q⟩:=A_ cdv A outer s H vs Q E hr hsp
 exact⟨t,h.nox,q⟩
theorem Fun.binds{x qual:Str}{st:Stmt}{f:Addr}{fd:FuncData}{ps:List Str}(F:Fun K x qual st f fd)
  (h:∀(kV doc pm:Value) (an:Option Addr) (cdv ct:Value) (us:List Value),us.length=ps.length->bindArgs (PySem.W.fnOf x qual (fD st) (dZ st) (aw st) .none kV doc pm an cdv ct) ⟨us,[]⟩=pure (ps.zip us)):Binds K fd ps []:=by
 obtain⟨oc,od,kV,doc,pm,an,cdv,ct,osl,rfl,lk,hcd⟩:=F.ex
 exact .all (h kV doc pm an cdv ct)
theorem Jc{x qual:Str}{st:Stmt}{f:Addr}{oc:Value}{od an:Option Addr}{osl:Array (Option Value)}{kV doc pm cdv ct:Value}(l:K.lookup f=some ⟨oc,od,.func (PySem.W.fnOf x qual (fD st) (dZ st) (aw st) .none kV doc pm an cdv ct),osl⟩)
  (c:PySem.W.codeIn K cdv qual=true) (k:PySem.W.keepIn K (.ref f)=true):Fun K x qual st f (PySem.W.fnOf x qual (fD st) (dZ st) (aw st) .none kV doc pm an cdv ct):=⟨⟨oc,od,kV,doc,pm,an,cdv,ct,osl,rfl,l,c⟩,k⟩
end
theorem pk{n:Nat}(h:n≤1000):n<sizeLine:=Nat.lt_of_le_of_lt h (by decide)
section
variable{X:Cx}
end
def aN(H H':Hp):Prop:=∀b o,H b=some o->H' b=some o
theorem aN.refl(H:Hp):aN H H:=λ_ _ h=>h
theorem aN.trans{H H1 H2:Hp}(a:aN H H1)(b:aN H1 H2):aN H H2:=λc o h=>b c o (a c o h)
theorem aN.free{H H':Hp}(e:aN H H'){l:Addr}(h:H' l=Option.none):H l=Option.none:=by
 cases q:H l with
 | none=>rfl
 | some o =>
  rw[e l o q] at h
  cases h
theorem aN.seq{K:PySem.W.Frag}{H H':Hp}{a:Addr}{xs:List V}(e:aN H H')(h:SqL K H a xs):SqL K H' a xs:=by
 rcases h with (h|⟨o,h⟩)|h
 ·exact .inl (.inl (e _ _ h))
 ·exact .inl (.inr ⟨o,e _ _ h⟩)
 ·exact .inr h
section
variable{X:Cx}
theorem ym:dg X (.builtin "len") (λxs H Q=>∃a kvs,xs=[V.ref a]/\H a=some (.dK kvs)/\Q (.int kvs.length) H):=by
 intro pins s σ H xs us Q I r h
 obtain⟨a,kvs,rfl,ha,q⟩:=h
 obtain⟨u,rfl,ru⟩:=vals1 r
 cases ru
 exact Ln I (.inl ha) λt s' I'=>⟨.int kvs.length,H,I',⟨t,rfl⟩,q⟩
end
section
variable{κ:Type}[DecidableEq κ]
end
theorem cS.there{P:Program}{w:World}{H:Hp}{h:Heap}{a:Addr}{o:HO}(x:cS P w H h a o):∃ob,h.get? a=some ob:=by
 cases o with
 | lst xs=>obtain⟨_,_,_,_,e⟩:=x;exact⟨_,e⟩
 | tup xs=>obtain⟨_,_,_,p⟩:=x;obtain⟨_,e,_⟩:=p;exact⟨_,e⟩
 | dK kvs=>obtain⟨_,_,_,_,o,_,e,_⟩:=x;exact⟨_,e⟩
 | dT kvs=>obtain⟨_,_,_,_,o,_,_,e,_⟩:=x;exact⟨_,e⟩
 | set S n=>obtain⟨o,_,_,_,e,_⟩:=x;exact⟨_,e⟩
 | ins C dx fs=>obtain⟨_,_,_,e,_⟩:=x;exact⟨_,e⟩
 | own y=>obtain⟨_,e⟩:=x;exact⟨_,e⟩
 | xd fs=>obtain⟨_,⟨_,_,_,e,_⟩,_⟩:=x;exact⟨_,e⟩
 | rng lo hi=>obtain⟨_,_,_,e⟩:=x;exact⟨_,e⟩
 | frz ob u=>obtain⟨e,_⟩:=x;exact⟨_,e⟩
 | tbl ps=>exact⟨_,show h.get? a=some _ from x⟩
 | met f y=>exact⟨_,show h.get? a=some _ from x⟩
 | ext φ=>obtain⟨_,⟨_,e⟩,_⟩:=x;exact⟨_,e⟩
def CX1(P:Program)(w:World):CXT:=λouter H s E ev s'=>∃(e t C:Addr) (H':Hp) (B:Heap),ev=.ref e/\s'.os=s.os/\AllBare s'.gens/\Un (frs outer) [] H H' s.heap s'.heap/\HOk P w H' s'.heap/\E (.ref C) none H' /\
 Heap.FlyingW B outer e (.ref C) (.ref t) s'.heap/\(∀b o,s.heap.get? b=some o->b∉frs outer->∃o',B.get? b=some o')/\∀b o,H' b=some o->∃o',B.get? b=some o'
theorem Bd{P:Program}{w:World}{K:PySem.W.Frag}{mg:Str->Option Value}{base:Heap}{N:List Str}{qual:Str}{scope:Scope}{f:Addr}{cd:Value}{A:Around}{outer:List Env}{s:Shared}{H:Hp}{E:XK}
  {pins:List (Addr×Obj)}{σ:L2.St}{H2:Hp}{s2:Shared}{h':Heap}{e C:Addr}{vs:List Value}
  (I:Inv (j8 (CX1 P w) P w K mg base N qual scope f cd A outer s H E) pins σ H2 s2) (hx:Heap.MadeExcOf s2.heap h' e (.ref C) vs) (hE:E (.ref C) none H2) :
  (j8 (CX1 P w) P w K mg base N qual scope f cd A outer s H E).xe (.ref e) { s2 with heap:=h' }:=by
 have hin:∀env∈(envOfC qual scope s.heap.objs.size f cd::outer),∀b,env.frame=some b->b∈frs (envOfC qual scope s.heap.objs.size f cd::outer):=λenv he b hb=>List.mem_filterMap.mpr ⟨env,he,hb⟩
 have hst:=I.stack
 have hnf:∀b,b∈frs (envOfC qual scope s.heap.objs.size f cd::outer)->H2 b=none:=I.j5
 show wpAny _ _ (leaving _ (.ref e)) _ _ _
 refine wpAny_leaves_madeW (base:=PySem.W.hideAll s2.heap (frs (envOfC qual scope s.heap.objs.size f cd::outer))) (h:=s2.heap) I.ok.frames rfl (λb o q=>PySem.W.of_hideAll _ q) (PySem.W.funFrames_hide hst hin) hx λh'' t fl tup bt up=>?_
 have keep:∀b o,s2.heap.get? b=some o->b∉frs (envOfC qual scope s.heap.objs.size f cd::outer)->h''.get? b=some o:=λb o q nf=>fl.1 b o (PySem.W.hideAll_get _ q nf)
 have slot:∀b o,s2.heap.get? b=some o->b∈frs (envOfC qual scope s.heap.objs.size f cd::outer)->∃sl,h''.get? b=some { o with slots:=sl }:=λb o q hb=>by
  obtain⟨_,o',ho',hnr⟩:=hst.mem hb
  rw[q] at ho'
  cases ho'
  exact up b o (hx.keeps b o q) hnr
 have nl:∀b o,s.heap.get? b=some o->b∉frs outer->b∉frs (envOfC qual scope s.heap.objs.size f cd::outer):=λb o q nb hb=>by
  rcases List.mem_cons.mp (show b∈s.heap.objs.size::frs outer from hb) with z|z
  ·exact absurd (Heap.lt_size q) (by rw[z];exact Nat.lt_irrefl _)
  ·exact nb z
 have U:=I.base
 refine⟨e,t,C,H2,_,rfl,I.os,I.bare,⟨λb o q n nb _=>?_,λb o q n hb _=>?_,λb o q n _=>U.free b o q n (λz=>nomatch z),λb o q _=>?_,U.il,U.bS,U.ip⟩,λa o q=>?_,hE,fl,λb o q nb=>?_,λb o q=>?_⟩
 ·exact keep b o (U.keep b o q n nb (λz=>nomatch z)) (nl b o q nb)
 ·obtain⟨sl,e1⟩:=U.slot b o q n hb (λz=>nomatch z)
  obtain⟨sl2,e2⟩:=slot b _ e1 (List.mem_cons_of_mem _ hb)
  exact⟨sl2,e2⟩
 ·obtain⟨o',e1⟩:=U.there b o q (λz=>nomatch z)
  by_cases hb:b∈frs (envOfC qual scope s.heap.objs.size f cd::outer)
  ·obtain⟨sl,e2⟩:=slot b o' e1 hb
   exact⟨_,e2⟩
  ·exact⟨o',keep b o' e1 hb⟩
 ·refine(I.hok a o q).kY (λc v hc r=>keep c v r λhb=>?_) (λ_ r=>r) λ_ _ r=>r
  have:=hnf c hb
  rcases hc with rfl|hc
  ·rw[this] at q;cases q
  ·rw[this] at hc;cases hc
 ·obtain⟨o',e1⟩:=U.there b o q (λz=>nomatch z)
  exact⟨o',PySem.W.hideAll_get _ e1 (nl b o q nb)⟩
 ·obtain⟨o',e1⟩:=cS.there (I.hok b o q)
  exact⟨o',PySem.W.hideAll_get _ e1 λhb=>by rw[hnf b hb] at q;cases q⟩
theorem Fg{P:Program}{w:World}{K:PySem.W.Frag}{mg:Str->Option Value}{base:Heap}{N:List Str}{qual:Str}{scope:Scope}{f:Addr}{cd:Value}{A:Around}{outer:List Env}{s:Shared}{H:Hp}{E E2:XK}
  {pins:List (Addr×Obj)}{σ:L2.St}{H2:Hp}{s2 s3:Shared}{ev:Value}
  (I:Inv (j8 (CX1 P w) P w K mg base N qual scope f cd A outer s H E) pins σ H2 s2) (hx:CX1 P w (envOfC qual scope s.heap.objs.size f cd::outer) H2 s2 E2 ev s3) (hE:∀c H',E2 c none H'->E c none H') :
  (j8 (CX1 P w) P w K mg base N qual scope f cd A outer s H E).xe ev s3:=by
 obtain⟨e,t,C,H',B,rfl,hos,mO,U2,hok,hE2,fl0,cov,iu⟩:=hx
 have hst:=I.stack
 have hnf:∀b,b∈frs (envOfC qual scope s.heap.objs.size f cd::outer)->H2 b=none:=I.j5
 show wpAny _ _ (leaving _ (.ref e)) _ _ _
 refine wpAny_leaves_onW I.ok.frames rfl fl0 λh'' fl up=>?_
 have U:=I.base
 have nl:∀b o,s.heap.get? b=some o->b∉frs outer->b∉frs (envOfC qual scope s.heap.objs.size f cd::outer):=λb o q nb hb=>by
  rcases List.mem_cons.mp (show b∈s.heap.objs.size::frs outer from hb) with z|z
  ·exact absurd (Heap.lt_size q) (by rw[z];exact Nat.lt_irrefl _)
  ·exact nb z
 have same:∀b o o',s3.heap.get? b=some o->B.get? b=some o'->h''.get? b=some o:=λb o o' q1 q2=>by
  have:=fl0.1 b o' q2
  rw[q1] at this
  cases this
  exact fl.1 b o q2
 have slot:∀b o,s3.heap.get? b=some o->b∈frs (envOfC qual scope s.heap.objs.size f cd::outer)->∃sl,h''.get? b=some { o with slots:=sl }:=λb o q hb=>by
  obtain⟨_,o',ho',hnr⟩:=fl0.2.2.1.mem hb
  rw[q] at ho'
  cases ho'
  exact up b o q hnr
 refine⟨e,t,C,H',B,rfl,hos.trans I.os,mO,⟨λb o q n nb _=>?_,λb o q n hb _=>?_,λb o q n _=>?_,λb o q _=>?_,λb xs q=>U2.il b xs (U.il b xs q),λb o u q=>U2.bS b o u (U.bS b o u q),λb ps q=>?_⟩,λa o q=>?_,hE _ _ hE2,fl,λb o q nb=>?_,iu⟩
 ·have q1:=U.keep b o q n nb (λz=>nomatch z)
  have n1:=U.free b o q n (λz=>nomatch z)
  have nl1:=nl b o q nb
  obtain⟨o',hB⟩:=cov b o q1 nl1
  exact same b o o' (U2.keep b o q1 n1 nl1 (λz=>nomatch z)) hB
 ·obtain⟨sl,e1⟩:=U.slot b o q n hb (λz=>nomatch z)
  have n1:=U.free b o q n (λz=>nomatch z)
  obtain⟨sl2,e2⟩:=U2.slot b _ e1 n1 (List.mem_cons_of_mem _ hb) (λz=>nomatch z)
  obtain⟨sl3,e3⟩:=slot b _ e2 (List.mem_cons_of_mem _ hb)
  exact⟨sl3,e3⟩
 ·have n1:=U.free b o q n (λz=>nomatch z)
  obtain⟨o1,e1⟩:=U.there b o q (λz=>nomatch z)
  exact U2.free b o1 e1 n1 (λz=>nomatch z)
 ·obtain⟨o1,e1⟩:=U.there b o q (λz=>nomatch z)
  obtain⟨o2,e2⟩:=U2.there b o1 e1 (λz=>nomatch z)
  by_cases hb:b∈frs (envOfC qual scope s.heap.objs.size f cd::outer)
  ·obtain⟨sl,e3⟩:=slot b o2 e2 hb
   exact⟨_,e3⟩
  ·obtain⟨o',hB⟩:=cov b o1 e1 hb
   exact⟨o2,same b o2 o' e2 hB⟩
 ·obtain⟨m1,e1⟩:=U.ip b ps q
  obtain⟨m2,e2⟩:=U2.ip b _ e1
  exact⟨m1++m2,by rw[e2,Array.append_assoc]⟩
 ·refine(hok a o q).kY (λc v hc r=>?_) (λ_ r=>r) λ_ _ r=>r
  have hT:∃o1,H' c=some o1:=by
   rcases hc with rfl|hc
   ·exact⟨_,q⟩
   ·exact⟨_,hc⟩
  obtain⟨o1,h1⟩:=hT
  obtain⟨o',hB⟩:=iu c o1 h1
  exact same c v o' r hB
 ·obtain⟨o1,e1⟩:=U.there b o q (λz=>nomatch z)
  exact cov b o1 e1 (nl b o q nb)
theorem Be{K:PySem.W.Frag}{h:Heap}{mg:Str->Option Value}{x:Str}{C:Addr}{bmB:List Value}{newId:String}(X:K.In h)(hx:mg x=some (.ref C))(q:PySem.W.excIn K C bmB newId=true):OwnCls x C bmB newId mg h:=by
 refine⟨hx,?_⟩
 unfold PySem.W.excIn at q
 match hl:K.lookup C with
 | none=>rw[hl] at q;cases q
 | some o =>
  rw[hl] at q
  split at q
  ·rename_i dd cd sl e
   cases e
   split at q
   ·rename_i C' bm k0 k1 k2 k3 n k5 hm hs
    simp only[Bool.and_eq_true,beq_iff_eq,Bool.not_eq_true'] at q
    obtain⟨⟨⟨⟨⟨e1,e2⟩,e3⟩,e4⟩,e5⟩,e6⟩:=q
    subst e1 e2
    cases cd
    simp only at hm e3 e5 e6
    subst hm e3
    cases sl
    simp only at hs
    subst hs
    exact⟨_,_,_,_,_,_,_,_,_,_,_,_,_,_,_,_,_,X _ _ hl,.of_isNs (PySem.W.isNs_of_in X e5),PySem.W.nsMap_none_of_in X e5 e6,PySem.W.tail_of_in X e4⟩
   ·cases q
  ·cases q
def Jd(X:Cx)(C:Addr):TS:=λ_ σ H=>∀(pins:List (Addr×Obj)) (s:Shared) (h':Heap) (e:Addr) (vs:List Value),Inv X pins σ H s->Heap.MadeExcOf s.heap h' e (.ref C) vs->X.xe (.ref e) { s with heap:=h' }
theorem Bf{X:Cx}{x:Str}{C:Addr}{bmB:List Value}{B newId uT:String}{np aP pos p2:Pos}{m:Str}{j:Nat}(F:ExcBaseFacts B newId uT bmB)(hc:X.calm=true)(hg:Gl X x)(hm:X.mg x=some (.ref C))(q:PySem.W.excIn X.K C bmB newId=true)
  (hpl:(backTo aP (starEach [.Constant (.str m) j p2] X.env)).any (·.1)=false:=by rfl) (hs:starEach [.Constant (.str m) j p2] X.env=(false,eval (.Constant (.str m) j p2) X.env)::starEach [] X.env:=by rfl) (hd:(x==("__debug__":Str))=false:=by decide) :
  PS X (.Raise (some (.Call (.Name x np) [.Constant (.str m) j p2] [] aP)) none pos) (Jd X C):=by
 intro pins s σ H D I h
 have e0:=I.E4
 have KX:X.K.In s.heap:=e0.mod.kin.keeps λb o e=>(e0.bs b o e).1
 obtain⟨bm,N,nm,qn,bs,hdct,sn,sub,ab,col,dd,k0,k1,k2,k3,k5,mN,hC,hN,hni,T⟩:=(Be KX hm q).obj
 refine wpAny_Raise_call_subT (C:=C) (nm:=nm) (q:=qn) (N:=N) (bs:=bs) (bm:=bm) (hdct:=hdct) (sn:=sn) (sub:=sub) (ab:=ab) (col:=col) (dd:=dd) (k0:=k0) (k1:=k1) (k2:=k2) (k3:=k3) (k5:=k5) F (T.hasType F.hasBase) (I.ok.hd hc) hpl hni (iY I hg hm ⟨rfl,?_⟩ hd)
 refine Calls.evalArgs_plain (Calls.spliced_cons (Calls.Constant_str (k:=j) (pos:=p2) (Calls.spliced_nil ?_)))
 exact⟨rfl,by show 1≤sizeLine;decide,hC,hN,T,λh' e hx=>h pins _ h' e _ (I.tok _) hx⟩
theorem Un.held{P:Program}{w:World}{l:List Env}{H H':Hp}{h0 h3 h5 B:Heap}{e:Addr}{cls a0:Value}(U:Un (frs l) [] H H' h0 h3)(hok:HOk P w H' h3)(fl:Heap.FlyingW B l e cls a0 h3)(st:B.StaysIn h5)(up:h3.UpToSlots h5)
  (cov:∀b o,h0.get? b=some o->b∉frs l->∃o',B.get? b=some o') (iu:∀b o,H' b=some o->∃o',B.get? b=some o'):Un (frs l) [] H H' h0 h5/\HOk P w H' h5:=by
 have same:∀b o o',h3.get? b=some o->B.get? b=some o'->h5.get? b=some o:=λb o o' q1 q2=>by
  have:=fl.1 b o' q2
  rw[q1] at this
  cases this
  exact st b o q2
 have slot:∀b o,h3.get? b=some o->b∈frs l->∃sl,h5.get? b=some { o with slots:=sl }:=λb o q hb=>by
  obtain⟨_,o',ho',hnr⟩:=fl.2.2.1.mem hb
  rw[q] at ho'
  cases ho'
  exact up b o q hnr
 refine⟨⟨λb o q n nb hx=>?_,λb o q n hb hx=>?_,U.free,λb o q hx=>?_,U.il,U.bS,U.ip⟩,λa o q=>?_⟩
 ·obtain⟨o',hB⟩:=cov b o q nb
  exact same b o o' (U.keep b o q n nb hx) hB
 ·obtain⟨sl,e1⟩:=U.slot b o q n hb hx
  obtain⟨sl2,e2⟩:=slot b _ e1 hb
  exact⟨sl2,e2⟩
 ·obtain⟨o2,e2⟩:=U.there b o q hx
  by_cases hb:b∈frs l
  ·obtain⟨sl,e3⟩:=slot b o2 e2 hb
   exact⟨_,e3⟩
  ·obtain⟨o',hB⟩:=cov b o q hb
   exact⟨o2,same b o2 o' e2 hB⟩
 ·refine(hok a o q).kY (λc v hc r=>?_) (λ_ r=>r) λ_ _ r=>r
  have hT:∃o1,H' c=some o1:=by
   rcases hc with rfl|hc
   ·exact⟨_,q⟩
   ·exact⟨_,hc⟩
  obtain⟨o1,h1⟩:=hT
  obtain⟨o',hB⟩:=iu c o1 h1
  exact same c v o' r hB
section
variable{M:Model}{A:Around}{E:Value->Shared->Prop}{h:Heap}{g:Array GenState}{d:Drawn}{t:Nat}{os:OsState}{e C:Addr}{oe:Obj}
 {nm q:Str}{N:Addr}{bs bm:List Value}{hdct:Bool}{sn:List Str}{sub:List Value}{ab:Bool}{col:Option Bool}{dd:Option Addr}{k0 k1 k2 k3 k5:Option Value}{newId:String}
 {nm' q':Str}{N' D:Addr}{bs' bm':List Value}{HE:Bool}{sn':List Str}{Lq:List Value}{ab':Bool}{Lr:Option Bool}{dd':Option Addr}{k0' k1' k2' k3' k5':Option Value}{Bg:String}
theorem mP{Q:Bool->Shared->Prop}(hC:h.get? C=some (excClassObj nm q C N bs bm hdct sn sub ab col dd k0 k1 k2 k3 k5 newId))(he:h.get? e=some oe)(jD:oe.cls=.ref C)
  (hD:h.get? D=some (excClassObj nm' q' D N' bs' bm' HE sn' Lq ab' Lr dd' k0' k1' k2' k3' k5' Bg)) (cf:bm'.contains (.type "BaseException")=true)
  (hq:Q ((Value.ref C::bm).contains (.ref D)) ⟨h,g,d,t,os⟩):wpAny M A (excMatches (.ref e) (.ref D)) Q E ⟨h,g,d,t,os⟩:=by
 have hcB:(Value.ref D::bm').contains (.type "BaseException")=true:=by rw[List.contains_cons,cf,Bool.or_true]
 have f:=tc_notTuple
 unfold excMatches
 cases hb:(Value.ref C::bm).contains (.ref D)<;>rw[hb] at hq <;>
 repeat (first|(with_reducible refine wpAny_loadPart_at he ?_;rw[jD])|with_reducible refine wpAny_loadPart_at hD ?_|(with_reducible refine wpAny_isSubtype_exc hD ?_;rw[hcB])|(with_reducible refine wpAny_isSubtype_exc hC ?_;rw[hb])|wp_step)
 all_goals exact hq
end
def fe(h:Heap)(C:Addr)(bm:List Value):Prop:=∃nm q N bs hdct sn sub ab col dd k0 k1 k2 k3 k5 newId,h.get? C=some (excClassObj nm q C N bs bm hdct sn sub ab col dd k0 k1 k2 k3 k5 newId)/\bm.contains (.type "BaseException")=true
theorem yn{M:Model}{A:Around}{E:Value->Shared->Prop}{h:Heap}{g:Array GenState}{d:Drawn}{t:Nat}{os:OsState}{D:Addr}{bm':List Value}{Q:Bool->Shared->Prop}(hD:fe h D bm')(hq:Q true ⟨h,g,d,t,os⟩):wpAny M A (isExcClass (.ref D)) Q E ⟨h,g,d,t,os⟩:=by
 obtain⟨nm,q,N,bs,hdct,sn,sub,ab,col,dd,k0,k1,k2,k3,k5,newId,hD,hb⟩:=hD
 have hcB:(Value.ref D::bm').contains (.type "BaseException")=true:=by rw[List.contains_cons,hb,Bool.or_true]
 unfold isExcClass
 repeat (first|with_reducible refine wpAny_loadPart_at hD ?_|(with_reducible refine wpAny_isSubtype_exc hD ?_;rw[hcB])|wp_step)
 all_goals exact hq
theorem Fh{M:Model}{A:Around}{E:Value->Shared->Prop}{h:Heap}{g:Array GenState}{d:Drawn}{t:Nat}{os:OsState}{C:Addr}{bm:List Value}{v:Value}{Q:Bool->Shared->Prop}(hC:fe h C bm)(hq:Q ((Value.ref C::bm).contains v) ⟨h,g,d,t,os⟩):wpAny M A (isSubtype (.ref C) v) Q E ⟨h,g,d,t,os⟩:=by
 obtain⟨nm,q,N,bs,hdct,sn,sub,ab,col,dd,k0,k1,k2,k3,k5,newId,hC,hb⟩:=hC
 exact wpAny_isSubtype_exc hC hq
theorem mQ{M:Model}{A:Around}{E:Value->Shared->Prop}{h:Heap}{g:Array GenState}{d:Drawn}{t:Nat}{os:OsState}{e C tup:Addr}{oe:Obj}{bm:List Value}{Ds:List Addr}{Q:Bool->Shared->Prop}(hC:fe h C bm)(he:h.get? e=some oe)(jD:oe.cls=.ref C)
  (ht:IsTup h tup (Ds.map Value.ref).toArray) (hD:∀D∈Ds,∃bm',fe h D bm')
  (hq:Q (Ds.any λD=>(Value.ref C::bm).contains (.ref D)) ⟨h,g,d,t,os⟩):wpAny M A (excMatches (.ref e) (.ref tup)) Q E ⟨h,g,d,t,os⟩:=by
 obtain⟨o,ho,hc,n,hd⟩:=ht
 unfold excMatches
 refine wpAny_bind (wpAny_isInstance ⟨o,ho,hc⟩ isSubtype_tuple_tuple ?_)
 dsimp only
 rw[if_pos rfl]
 refine wpAny_bind (wpAny_seqItems ho hd ?_)
 dsimp only[Option.getD_some,Option.getD]
 have Ja:∀c∈Ds.map Value.ref,∃D bm',c=.ref D/\fe h D bm':=λc hm=>by
  obtain⟨D,hD',rfl⟩:=List.mem_map.mp hm
  obtain⟨bm',h'⟩:=hD D hD'
  exact⟨D,bm',rfl,h'⟩
 refine wpAny_bind (wpAny_pure (wpAny_bind ?_))
 refine wpAny_forIn_list _ (λrest _ s=>(∀c∈rest,∃D bm',c=.ref D/\fe h D bm')/\s=⟨h,g,d,t,os⟩) _ (λc rest b s ⟨hr,hs⟩=>?_) (λb s ⟨_,hs⟩=>?_) _ _ ⟨Ja,rfl⟩
 ·subst hs
  obtain⟨D,bm',rfl,Na⟩:=hr c (.head _)
  exact wpAny_bind (yn Na (wpAny_pure ⟨λc hc=>hr c (.tail _ hc),rfl⟩))
 ·subst hs
  refine wpAny_bind (wpAny_typeOf_ref he ?_)
  rw[jD]
  refine wpAny_bind ?_
  refine wpAny_forIn_list _ (λrest acc s=>acc=(none,())/\s=⟨h,g,d,t,os⟩/\∃ds:List Addr,rest=ds.map Value.ref/\Q (ds.any λD=>(Value.ref C::bm).contains (.ref D)) ⟨h,g,d,t,os⟩) _ (λc rest b s ⟨ha,hs,ds,hr,hq⟩=>?_) (λb s ⟨ha,hs,ds,hr,hq⟩=>?_) _ _ ⟨rfl,rfl,Ds,rfl,hq⟩
  ·subst hs ha
   cases ds with
   | nil=>cases hr
   | cons D ds =>
    cases hr
    refine wpAny_bind (Fh hC ?_)
    rw[List.any_cons] at hq
    cases hb:(Value.ref C::bm).contains (.ref D) with
    | true=>rw[hb] at hq;exact wpAny_pure (wpAny_pure hq)
    | false=>rw[hb] at hq;exact wpAny_pure ⟨rfl,rfl,ds,rfl,hq⟩
  ·subst hs ha
   cases ds with
   | nil=>exact wpAny_pure hq
   | cons D ds=>cases hr
structure Cau(X:Cx)(pins:List (Addr×Obj))(σ:L2.St)(H':Hp)(e t C:Addr)(B:Heap)(s:Shared):Prop where
 org:∃H0 s0,Inv X pins σ H0 s0/\s.os=s0.os/\Un (frs X.stack) [] H0 H' s0.heap s.heap/\∀b o,s0.heap.get? b=some o->b∉frs X.stack->∃o',B.get? b=some o'
 bare:AllBare s.gens
 hok:HOk X.prog X.w H' s.heap
 fly:Heap.FlyingW B X.stack e (.ref C) (.ref t) s.heap
 cov:∀b o,H' b=some o->∃o',B.get? b=some o'
section
variable{X:Cx}{pins:List (Addr×Obj)}{σ:L2.St}{H':Hp}{e t C:Addr}{B h':Heap}{s:Shared}
theorem Cau.inv(c:Cau X pins σ H' e t C B s):Inv X pins σ H' s:=by
 obtain⟨H0,s0,I,hos,U,_⟩:=c.org
 exact I.Hy (ch:=[]) hos U c.hok c.bare λb z=>nomatch z
theorem Cau.slots{tk:Nat}(c:Cau X pins σ H' e t C B s)(fl:Heap.FlyingW B X.stack e (.ref C) (.ref t) h')(up:s.heap.UpToSlots h'):Cau X pins σ H' e t C B { s with heap:=h',toks:=tk }:=by
 obtain⟨H0,s0,I,hos,U,cov⟩:=c.org
 obtain⟨U',hk⟩:=U.held c.hok c.fly fl.1 up cov c.cov
 exact⟨⟨H0,s0,I,hos,U',cov⟩,c.bare,hk,fl,c.cov⟩
theorem qm{l:List Env}{cls a0:Value}{h:Heap}(fl:Heap.FlyingW B l e cls a0 h)(k:∀b o,h.get? b=some o->h'.get? b=some o):Heap.FlyingW B l e cls a0 h':=by
 obtain⟨f1,f2,f3,oe,vs,T,oT,ts,he,hc,hd,h1,hnT,hTe,hT,hdT,h3⟩:=fl
 exact⟨λb o q=>k b o (f1 b o q),f2,f3.of_keeps λb o q _=>⟨o,k b o q,rfl⟩,oe,vs,T,oT,ts,k _ _ he,hc,hd,h1,hnT,hTe,k _ _ hT,hdT,h3⟩
theorem Cau.kept{tk:Nat}(c:Cau X pins σ H' e t C B s)(k:∀b o,s.heap.get? b=some o->h'.get? b=some o):Cau X pins σ H' e t C B { s with heap:=h',toks:=tk } :=
 c.slots (qm c.fly k) λb o q _=>⟨o.slots,k b o q⟩
end
theorem cau{X:Cx}{pins:List (Addr×Obj)}{σ:L2.St}{H:Hp}{s s3:Shared}{ev:Value}{E2:XK}{Q:Unit->Shared->Prop}{E:Value->Shared->Prop}(hs:X.stack=X.env::X.outer)(hf:X.env.frame=some X.env.locals)
  (I:Inv X pins σ H s) (hx:CX1 X.prog X.w X.stack H s E2 ev s3)
  (k:∀e t C H' B h5,ev=.ref e->E2 (.ref C) none H'->Cau X pins σ H' e t C B { s3 with heap:=h5 }->Q () { s3 with heap:=h5 }) :
  wpAny (model X.prog X.w) X.A (noteFrame ev X.env) (λ_ s₂=>wpAny (model X.prog X.w) X.A (setFlight ev none) Q E s₂) E s3:=by
 obtain⟨e,t,C,H',B,rfl,hos,mO,U2,hok,hE2,fl0,cov,iu⟩:=hx
 refine wpAny_looks_onW (outer:=X.outer) (by rw[I.ok.frames,hs]) hf (by rw[← hs];exact fl0) λh4 held up4=>?_
 refine wpAny_landsW held λh5 fl5 up5=>?_
 obtain⟨U,hk⟩:=U2.held hok fl0 fl5.1 (up4.trans up5) cov iu
 exact k e t C H' B h5 rfl hE2 ⟨⟨H,s,I,hos,U,cov⟩,mO,hk,by rw[hs];exact fl5,iu⟩
abbrev Cx.mark(X:Cx)(ev:Value):Cx:={ X with A:=X.A.mark (some ev),calm:=false,xe:=λ_ _=>False }
section
variable{X:Cx}{pins:List (Addr×Obj)}{σ:L2.St}{H:Hp}{s:Shared}{ev:Value}
theorem Inv.mark(I:Inv X pins σ H s)(ev:Value):Inv (X.mark ev) pins σ H s :=
 ⟨⟨I.ok.mod,I.ok.kind,I.ok.glob,I.ok.blt,I.ok.above,I.ok.inj,I.ok.has,I.ok.cab,(λh=>by cases h),I.ok.frames,I.ok.stk,I.ok.exf,I.ok.bs,I.ok.bsz,I.ok.oM,I.ok.r8,I.ok.jC,I.ok.frf⟩,I.os,I.bare,I.base,I.loc,I.cell,I.free,I.df,I.pin,I.hok,I.len⟩
theorem Inv.unmark(ok:X.Ok)(I:Inv (X.mark ev) pins σ H s):Inv X pins σ H s:=⟨ok,I.os,I.bare,I.base,I.loc,I.cell,I.free,I.df,I.pin,I.hok,I.len⟩
theorem SP.unmark{D:Ends}{f:Flow}(ok:X.Ok)(h:SP (X.mark ev) pins D f s):SP X pins D f s:=by
 cases f with
 | next=>obtain⟨σ',H',I,q⟩:=h;exact⟨σ',H',I.unmark ok,q⟩
 | brk=>obtain⟨σ',H',I,q⟩:=h;exact⟨σ',H',I.unmark ok,q⟩
 | cont=>obtain⟨σ',H',I,q⟩:=h;exact⟨σ',H',I.unmark ok,q⟩
 | ret u=>obtain⟨v,σ',H',I,r,q⟩:=h;exact⟨v,σ',H',I.unmark ok,r,q⟩
end
def wO(X:Cx)(e:Addr)(name:Option Str)(body:List Stmt)(pos:Pos)(Q:Flow->Shared->Prop)(E:Value->Shared->Prop)(s:Shared):Prop :=
 codeAny (model X.prog X.w) (X.A.mark (some (.ref e))) (.handlers (.ref e) [.ExceptHandler none name body pos] X.env) (λr s₂=>match r with
  | .ok f=>(match name with
   | none=>Q f s₂
   | some n=>wpAny (model X.prog X.w) X.A (do bindName X.env n .none;unbindBehindTheSuite X.env n pos) (λ_ s₃=>Q f s₃) E s₂)
  | .error x=>cameBackBy (model X.prog X.w) X.A X.env E x s₂) s
section
variable{X:Cx}{pins:List (Addr×Obj)}{σ:L2.St}{H':Hp}{e t C D:Addr}{B:Heap}{s:Shared}{bm:List Value}{x:Str}{np pos:Pos}{name:Option Str}{body:List Stmt}{rest:List ExceptHandler}{Q:Flow->Shared->Prop}{E:Value->Shared->Prop}
theorem pq(c:Cau X pins σ H' e t C B s)(hC:fe s.heap C bm)(hD:∃bm',fe s.heap D bm')(hg:Gl X x)(hm:X.mg x=some (.ref D))
  (k:if (Value.ref C::bm).contains (.ref D)=true then wO X e name body pos Q E s else wpAny (model X.prog X.w) X.A (handleBy (.ref e) X.env rest) Q E s) (hd:(x==("__debug__":Str))=false:=by decide) :
  wpAny (model X.prog X.w) X.A (handleBy (.ref e) X.env (.ExceptHandler (some (.Name x np)) name body pos::rest)) Q E s:=by
 obtain⟨ob,hob,jD⟩:=c.fly.there
 refine wpAny_handleBy_cons (codeAny_handlers_test (iY (X:=X.mark (.ref e)) (c.inv.mark _) hg hm ?_ hd)) (by intro q;cases q)
 obtain⟨nm,q,N,bs,hdct,sn,sub,ab,col,dd,k0,k1,k2,k3,k5,newId,hC',_⟩:=hC
 obtain⟨bm',nm',q',N',bs',HE,sn',Lq,ab',Lr,dd',k0',k1',k2',k3',k5',Bg,hD',hb'⟩:=hD
 obtain⟨h,g,d,tk,os⟩:=s
 refine mP hC' hob jD hD' hb' ?_
 cases hb:(Value.ref C::bm).contains (.ref D) with
 | true=>rw[hb] at k;exact k
 | false=>rw[hb] at k;exact k
theorem uU{ts:TS}{D:Ends}{b₀:Stmt}{tl:List Stmt}(c:Cau X pins σ H' e t C B s)(hs:∀ev,PSs (X.mark ev) (b₀::tl) ts)(h:ts D σ H'):wO X e none (b₀::tl) pos (SP X pins D) E s:=by
 have ok:=c.inv.ok
 refine codeAny_handlers_suite (lands_againW c.fly λh6 fl6 up6=>?_)
 have c6:=Cau.slots (tk:=s.toks) c fl6 up6
 exact wpAny_mono (hs (.ref e) pins _ σ H' D (c6.inv.mark _) h) (λf s2 q=>SP.unmark ok q) λ_ _ z=>False.elim z
end
abbrev NmD:=Str×Pos×Addr
section
variable{X:Cx}{pins:List (Addr×Obj)}{σ:L2.St}{H':Hp}{e t C:Addr}{B:Heap}{s:Shared}{bm:List Value}{pos:Pos}{name:Option Str}{body:List Stmt}{rest:List ExceptHandler}{Q:Flow->Shared->Prop}{E:Value->Shared->Prop}
def nmE(n:NmD):Expr:=.Name n.1 n.2.1
structure Je(X:Cx)(n:NmD):Prop where
 g:Gl X n.1
 m:X.mg n.1=some (.ref n.2.2)
 d:(n.1==("__debug__":Str))=false
theorem jl{ev:Value}{p:Pos}{R:List Value->Shared->Prop}{E':Value->Shared->Prop}(I:Inv (X.mark ev) pins σ H' s):∀(ns:List NmD) (R:List Value->Shared->Prop),(∀n∈ns,Je X n)->R (ns.map λn=>.ref n.2.2) s ->
  wpAny (model X.prog X.w) (X.A.mark (some ev)) (spliced (backTo p (starEach (ns.map nmE) X.env))) R E' s
 | [],R,_,h=>Calls.spliced_nil h
 | n::ns,R,ok,h=>by
  have o:=ok n (.head _)
  have hs:starEach ((n::ns).map nmE) X.env=(false,eval (nmE n) X.env)::starEach (ns.map nmE) X.env:=rfl
  rw[hs]
  show wpAny _ _ (spliced ((false,eval (nmE n) X.env)::backTo p (starEach (ns.map nmE) X.env))) _ _ s
  refine Calls.spliced_cons (iY (X:=X.mark ev) I o.g o.m ?_ o.d)
  exact jl (R:=R) I ns (λus s1=>R (.ref n.2.2::us) s1) (λn' h'=>ok n' (.tail _ h')) h
theorem fe.keeps{h h':Heap}{C:Addr}{bm:List Value}(o:fe h C bm)(k:∀b o,h.get? b=some o->h'.get? b=some o):fe h' C bm:=by
 obtain⟨nm,q,N,bs,hdct,sn,sub,ab,col,dd,k0,k1,k2,k3,k5,newId,hC,hb⟩:=o
 exact⟨nm,q,N,bs,hdct,sn,sub,ab,col,dd,k0,k1,k2,k3,k5,newId,k _ _ hC,hb⟩
theorem Bh{x1}{tp:Pos}(ns:List NmD)(hl:ns.length≤1000)(c:Cau X pins σ H' e t C B s)(hC:fe s.heap C bm)(hD:∀n∈ns,∃bm',fe s.heap n.2.2 bm')(hn:∀n∈ns,Je X n)
  (k:∀s',(∀b o,s.heap.get? b=some o->s'.heap.get? b=some o)->Cau X pins σ H' e t C B s'->if (ns.any λn=>(Value.ref C::bm).contains (.ref n.2.2))=true then wO X e name body pos Q E s' else wpAny (model X.prog X.w) X.A (handleBy (.ref e) X.env rest) Q E s') :
  wpAny (model X.prog X.w) X.A (handleBy (.ref e) X.env (.ExceptHandler (some (.Tuple (ns.map nmE) x1 tp)) name body pos::rest)) Q E s:=by
 refine wpAny_handleBy_cons (codeAny_handlers_test ?_) (by intro q;cases q)
 refine wpAny_Tuple_spliced (jl (X:=X) (R:=λ_ _=>True) (c.inv.mark _) ns _ hn ⟨by rw[List.length_map];exact Nat.le_of_lt (pk hl),?_⟩)
 have kp:∀b o,s.heap.get? b=some o->(s.heap.push { cls:=.type "tuple",dict:=none,data:=.seq (ns.map λn=>Value.ref n.2.2).toArray }).get? b=some o:=λb o q=>Heap.get?_push_of_some _ q
 have c2:=Cau.kept (tk:=s.toks) c kp
 have kk:=k _ kp c2
 obtain⟨ob,hob,jD⟩:=c2.fly.there
 have ht:IsTup (s.heap.push { cls:=.type "tuple",dict:=none,data:=.seq (ns.map λn=>Value.ref n.2.2).toArray }) s.heap.objs.size ((ns.map λn=>n.2.2).map Value.ref).toArray:=by
  rw[List.map_map]
  exact⟨_,Heap.get?_push_size _ rfl,rfl,_,rfl⟩
 refine mQ (Ds:=ns.map λn=>n.2.2) (hC.keeps kp) hob jD ht (λD hm=>?_) ?_
 ·obtain⟨n,h1,rfl⟩:=List.mem_map.mp hm
  obtain⟨bm',h2⟩:=hD n h1
  exact⟨bm',h2.keeps kp⟩
 ·have e1:((ns.map λn=>n.2.2).any λD=>(Value.ref C::bm).contains (.ref D))=(ns.any λn=>(Value.ref C::bm).contains (.ref n.2.2)):=by rw[List.any_map];rfl
  rw[e1]
  cases hb:(ns.any λn=>(Value.ref C::bm).contains (.ref n.2.2)) with
  | true=>rw[hb] at kk;exact kk
  | false=>rw[hb] at kk;exact kk
end
section
variable{X:Cx}{pins:List (Addr×Obj)}{σ:L2.St}{H:Hp}{s:Shared}
theorem Inv.Ls{a:Addr}{φ:Heap->Prop}(I:Inv X pins σ H s)(hn:H a=none)(ha:∃o,s.heap.get? a=some o)(h0:X.s₀.heap.get? a=none)(hL:a≠X.env.locals)(hc:∀x c,X.env.cells.lookup x=some c->c≠a)(hp:∀p∈X.pn++pins,p.1≠a)
  (hφ:φ s.heap) (st:∀h1 h2:Heap,φ h1->(∀o,h1.get? a=some o->h2.get? a=some o)->φ h2):Inv X pins σ (upd H a (.ext φ)) s:=by
 have U:=I.base
 have ne:∀b o,H b=some o->b≠a:=λb o q z=>by rw[z,hn] at q;cases q
 have su:∀b o,H b=some o->upd H a (.ext φ) b=some o:=λb o q=>by rw[aI (ne b o q)];exact q
 refine⟨I.ok,I.os,I.bare,⟨U.keep,U.slot,λb o q n hx=>?_,U.there,λb xs q=>su b _ (U.il b xs q),λb o u q=>su b _ (U.bS b o u q),λb ps q=>?_⟩,I.loc,I.cell,?_,λx c q=>?_,λp h=>?_,λb o q=>?_,I.len⟩
 ·have z:b≠a:=λz=>by rw[z,h0] at q;cases q
  rw[aI z];exact U.free b o q n hx
 ·obtain⟨m,e1⟩:=U.ip b ps q
  exact⟨m,su b _ e1⟩
 ·rw[aI hL.symm];exact I.free
 ·rw[aI (hc x c q)];exact I.df x c q
 ·obtain⟨e1,e2,e3⟩:=I.pin p h
  exact⟨e1,by rw[aI (hp p h)];exact e2,e3⟩
 ·by_cases z:b=a
  ·subst z
   rw[aH] at q
   cases q
   exact⟨hφ,ha,st⟩
  ·rw[aI z] at q
   exact(I.hok b o q).kY (λc v _ r=>r) (λ_ r=>su _ _ r) λ_ _ r=>su _ _ r
theorem yo{M:Model}{A:Around}{E:Value->Shared->Prop}{i:Nat}{x:Str}{v:V}{Q:Unit->Shared->Prop}(I:Inv X pins σ H s)(hN:X.N.Nodup)(hi:X.N[i]?=some x)(hk:X.env.scope.names.lookup x=some .local)(hv:σ[i]?=some (some v))
  (h:∀s',Inv X pins (σ.set i none) H s'->Q () s'):wpAny M A (unbindName X.env x) Q E s:=by
 obtain⟨m,hn,hl⟩:=id I.loc
 have jD:(X.env.scope.kind==.class || (X.env.scope.kind==.module && X.env.locals != X.env.globals))=false:=by rw[I.ok.kind];rfl
 have hiσ:i<σ.length:=by rw[I.len];exact(List.getElem?_eq_some_iff.mp hi).1
 have cne:=I.cne
 obtain⟨u,_,q⟩:=hl i x v hi hv (.inl hk)
 have hm:m x=some u:=by
  rcases q with ⟨_,e⟩|⟨k,_⟩
  ·exact e
  ·have hk':X.env.kindOf x=some .local:=hk
   rw[hk'] at k
   rcases k with k|k<;>cases k
 refine wpAny_unbindName_local hk hn hm jD λh' u' hn' hs=>?_
 have tracked:HOk X.prog X.w H h':=λb ob e=>by
  refine(I.hok b ob e).kY (λc w' hc q=>(hs.2 c ?_).trans q) (λ_ q=>q) λ_ _ q=>q
  rintro rfl
  have r_:=I.free
  rcases hc with rfl|hc
  ·rw[r_] at e;cases e
  ·rw[r_] at hc;cases hc
 have far:∀b o,X.s₀.heap.get? b=some o->b≠X.env.locals:=λb o e=>Nat.ne_of_lt (Nat.lt_of_lt_of_le (Heap.lt_size e) I.ok.above)
 refine h _ ⟨I.ok,I.os,I.bare,⟨λb o e n hb hx=>?_,λb o e n hb hx=>?_,I.base.free,λb o e hx=>?_,I.base.il,I.base.bS,I.base.ip⟩,⟨_,hn',λj y v' e1 e2 e3=>?_⟩,λy c e=>?_,I.free,I.df,λp hp=>?_,tracked,by simpa using I.len⟩
 ·exact(hs.2 b (far b o e)).trans (I.base.keep b o e n hb hx)
 ·obtain⟨sl,e1⟩:=I.base.slot b o e n hb hx
  exact⟨sl,(hs.2 b (far b o e)).trans e1⟩
 ·obtain⟨o',e1⟩:=I.base.there b o e hx
  exact⟨o',(hs.2 b (far b o e)).trans e1⟩
 ·by_cases hj:j=i
  ·subst hj
   rw[List.getElem?_set_self hiσ] at e2
   cases e2
  ·rw[List.getElem?_set_ne (Ne.symm hj)] at e2
   obtain⟨w',r',q'⟩:=hl j y v' e1 e2 e3
   refine⟨w',r',?_⟩
   rcases q' with ⟨k,e⟩|⟨k,c,e,z⟩
   ·have:y≠x:=λe=>hj (mH hN e1 (e ▸ hi))
    exact .inl ⟨k,by simp[this,e]⟩
   ·exact .inr ⟨k,c,e,z.sameBut hs (cne y c e)⟩
 ·obtain⟨w',z⟩:=I.cell y c e
  exact⟨w',z.sameBut hs (cne y c e)⟩
 ·obtain⟨e,n,ne,nf,d⟩:=I.pin p hp
  exact⟨(hs.2 p.1 ne).trans e,n,ne,nf,d⟩
end
def fW(e C:Addr)(h:Heap):Prop:=∃o,h.get? e=some o/\o.cls=.ref C
section
variable{X:Cx}{pins:List (Addr×Obj)}{σ:L2.St}{H':Hp}{e t C:Addr}{B:Heap}{s:Shared}{pos:Pos}{E:Value->Shared->Prop}
theorem Cau.tracked(φ:Heap->Prop)(hφ:∀h,fW e C h->φ h)(st:∀h1 h2:Heap,φ h1->(∀o,h1.get? e=some o->h2.get? e=some o)->φ h2)(hs:X.stack=X.env::X.outer)(hf:X.env.frame=some X.env.locals)(hex:X.ex=[])(c:Cau X pins σ H' e t C B s):Inv X pins σ (upd H' e (.ext φ)) s:=by
 have I:=c.inv
 obtain⟨H0,s0,I0,hos,U,cov⟩:=c.org
 have hBe:B.get? e=none:=c.fly.2.1
 obtain⟨oe,vs,T,oT,ts,he,⟨jD,_⟩,hd,_⟩:=c.fly.2.2.2
 have nf:e∉frs X.stack:=λhb=>by
  obtain⟨_,o,ho,hnr⟩:=c.fly.2.2.1.mem hb
  rw[he] at ho
  cases ho
  exact hnr vs hd
 have nB:∀b o,s0.heap.get? b=some o->b∉frs X.stack->b≠e:=λb o q nb z=>by
  obtain⟨o',h1⟩:=cov b o q nb
  rw[z,hBe] at h1
  cases h1
 have hLf:X.env.locals∈frs X.stack:=by
  rw[hs]
  exact List.mem_filterMap.mpr ⟨X.env,.head _,hf⟩
 refine I.Ls ?_ ⟨oe,he⟩ ?_ (λz=>nf (z ▸ hLf)) (λx cc q z=>?_) (λp hp z=>?_) (hφ _ ⟨oe,he,jD⟩) st
 ·cases q:H' e with
  | none=>rfl
  | some o =>
   obtain⟨o',h1⟩:=c.cov e o q
   rw[hBe] at h1
   cases h1
 ·cases q:X.s₀.heap.get? e with
  | none=>rfl
  | some o =>
   obtain⟨o',h1⟩:=I0.base.there e o q (by rw[hex];exact λz=>nomatch z)
   exact absurd rfl (nB e o' h1 nf)
 ·obtain⟨v,o,h1,h2⟩:=I.cell x cc q
  rw[z,he] at h1
  cases h1
  rw[hd] at h2
  cases h2
 ·obtain⟨h1,_,h3,h4,_⟩:=I0.pin p hp
  refine nB p.1 p.2 h1 (λhb=>?_) z
  rw[hs] at hb
  rcases List.mem_filterMap.mp hb with ⟨env,hm,hfe⟩
  rcases List.mem_cons.mp hm with rfl|hm
  ·rw[hf] at hfe
   exact h3 (Option.some.inj hfe).symm
  ·exact h4 (List.mem_filterMap.mpr ⟨env,hm,hfe⟩)
def Ends.less(i:Nat)(D:Ends):Ends:={ D with nx:=λσ H=>D.nx (σ.set i none) H,bk:=λσ H=>D.bk (σ.set i none) H,ct:=λσ H=>D.ct (σ.set i none) H }
theorem Fi{i:Nat}{n:Str}{D:Ends}{f:Flow}{s2:Shared}(hN:X.N.Nodup)(hi:X.N[i]?=some n)(hk:X.env.scope.names.lookup n=some .local)(h:SP X pins (D.less i) f s2) :
  wpAny (model X.prog X.w) X.A (do bindName X.env n .none;unbindBehindTheSuite X.env n pos) (λ_ s₃=>SP X pins D f s₃) E s2:=by
 have go:∀{σ':L2.St}{H2:Hp} (R:L2.St->Prop),Inv X pins σ' H2 s2->(∀s3,Inv X pins (σ'.set i none) H2 s3->SP X pins D f s3)->wpAny (model X.prog X.w) X.A (do bindName X.env n .none;unbindBehindTheSuite X.env n pos) (λ_ s₃=>SP X pins D f s₃) E s2:=λ{σ' H2} R I k=>by
  refine wpAny_bind (wpAny_bindName (j6 (v:=.non) I hN hi (.inl hk) rfl (λs3 I3=>?_) (.inr hk)))
  refine wpAny_onRaise (yo (v:=.non) I3 hN hi hk ?_ λs4 I4=>?_)
  ·rw[List.getElem?_set_self (by rw[I.len];exact(List.getElem?_eq_some_iff.mp hi).1)]
  ·rw[List.set_set] at I4
   exact k s4 I4
 cases f with
 | next=>obtain⟨σ',H2,I,q⟩:=h;exact go (λ_=>True) I λs3 I3=>⟨_,_,I3,q⟩
 | brk=>obtain⟨σ',H2,I,q⟩:=h;exact go (λ_=>True) I λs3 I3=>⟨_,_,I3,q⟩
 | cont=>obtain⟨σ',H2,I,q⟩:=h;exact go (λ_=>True) I λs3 I3=>⟨_,_,I3,q⟩
 | ret u=>obtain⟨v,σ',H2,I,r,q⟩:=h;exact go (λ_=>True) I λs3 I3=>⟨v,_,_,I3,r,q⟩
theorem Bi{φ:Heap->Prop}{i:Nat}{n:Str}{ts:TS}{D:Ends}{b₀:Stmt}{tl:List Stmt}(hs:X.stack=X.env::X.outer)(hf:X.env.frame=some X.env.locals)(hex:X.ex=[])(hN:X.N.Nodup)(hi:X.N[i]?=some n)(hk:X.env.scope.names.lookup n=some .local)
  (c:Cau X pins σ H' e t C B s) (hφ:∀h,fW e C h->φ h) (st:∀h1 h2:Heap,φ h1->(∀o,h1.get? e=some o->h2.get? e=some o)->φ h2) (hp:∀ev,PSs (X.mark ev) (b₀::tl) ts) (h:ts (D.less i) (σ.set i (some (.ref e))) (upd H' e (.ext φ))):wO X e (some n) (b₀::tl) pos (SP X pins D) E s:=by
 have ok:=c.inv.ok
 refine codeAny_handlers_suite_as (lands_againW c.fly λh6 fl6 up6=>?_)
 have c6:=Cau.slots (tk:=s.toks) c fl6 up6
 have I6:=c6.tracked φ hφ st hs hf hex
 refine j6 (v:=.ref e) I6 hN hi (.inl hk) rfl (λs3 I3=>?_) (.inr hk)
 exact wpAny_mono (hp (.ref e) pins s3 _ _ (D.less i) (I3.mark _) h) (λf s2 q=>Fi hN hi hk (SP.unmark ok q)) λ_ _ z=>False.elim z
end
structure Hel(X:Cx)(pins:List (Addr×Obj))(σ:L2.St)(H':Hp)(e t C:Addr)(B:Heap)(s:Shared):Prop where
 org:∃H0 s0,Inv X pins σ H0 s0/\s.os=s0.os/\Un (frs X.stack) [] H0 H' s0.heap s.heap/\∀b o,s0.heap.get? b=some o->b∉frs X.stack->∃o',B.get? b=some o'
 bare:AllBare s.gens
 hok:HOk X.prog X.w H' s.heap
 held:Heap.HeldW B X.stack e (.ref C) (.ref t) X.env.locals s.heap
 cov:∀b o,H' b=some o->∃o',B.get? b=some o'
theorem wQ{P:Program}{w:World}{l:List Env}{H H':Hp}{h0 h3 h5 B:Heap}(U:Un (frs l) [] H H' h0 h3)(hok:HOk P w H' h3)(st0:B.StaysIn h3)(ff:h3.FunFrames B l)(st:B.StaysIn h5)(up:h3.UpToSlots h5)
  (cov:∀b o,h0.get? b=some o->b∉frs l->∃o',B.get? b=some o') (iu:∀b o,H' b=some o->∃o',B.get? b=some o'):Un (frs l) [] H H' h0 h5/\HOk P w H' h5:=by
 have same:∀b o o',h3.get? b=some o->B.get? b=some o'->h5.get? b=some o:=λb o o' q1 q2=>by
  have:=st0 b o' q2
  rw[q1] at this
  cases this
  exact st b o q2
 have slot:∀b o,h3.get? b=some o->b∈frs l->∃sl,h5.get? b=some { o with slots:=sl }:=λb o q hb=>by
  obtain⟨_,o',ho',hnr⟩:=ff.mem hb
  rw[q] at ho'
  cases ho'
  exact up b o q hnr
 refine⟨⟨λb o q n nb hx=>?_,λb o q n hb hx=>?_,U.free,λb o q hx=>?_,U.il,U.bS,U.ip⟩,λa o q=>?_⟩
 ·obtain⟨o',hB⟩:=cov b o q nb
  exact same b o o' (U.keep b o q n nb hx) hB
 ·obtain⟨sl,e1⟩:=U.slot b o q n hb hx
  obtain⟨sl2,e2⟩:=slot b _ e1 hb
  exact⟨sl2,e2⟩
 ·obtain⟨o2,e2⟩:=U.there b o q hx
  by_cases hb:b∈frs l
  ·obtain⟨sl,e3⟩:=slot b o2 e2 hb
   exact⟨_,e3⟩
  ·obtain⟨o',hB⟩:=cov b o q hb
   exact⟨o2,same b o2 o' e2 hB⟩
 ·refine(hok a o q).kY (λc v hc r=>?_) (λ_ r=>r) λ_ _ r=>r
  have hT:∃o1,H' c=some o1:=by
   rcases hc with rfl|hc
   ·exact⟨_,q⟩
   ·exact⟨_,hc⟩
  obtain⟨o1,h1⟩:=hT
  obtain⟨o',hB⟩:=iu c o1 h1
  exact same c v o' r hB
section
variable{X:Cx}{pins:List (Addr×Obj)}{σ:L2.St}{H H':Hp}{e t C:Addr}{B:Heap}{s s3:Shared}{ev:Value}{E:Value->Shared->Prop}
theorem Hel.slots{h':Heap}(c:Hel X pins σ H' e t C B s)(hl:Heap.HeldW B X.stack e (.ref C) (.ref t) X.env.locals h')(up:s.heap.UpToSlots h'):Hel X pins σ H' e t C B { s with heap:=h' }:=by
 obtain⟨H0,s0,I,hos,U,cov⟩:=c.org
 obtain⟨U',hk⟩:=wQ U c.hok c.held.1 c.held.2.2.1 hl.1 up cov c.cov
 exact⟨⟨H0,s0,I,hos,U',cov⟩,c.bare,hk,hl,c.cov⟩
theorem Bj{Q:Unit->Shared->Prop}{E2:XK}(hs:X.stack=X.env::X.outer)(hf:X.env.frame=some X.env.locals)(I:Inv X pins σ H s)(hx:CX1 X.prog X.w X.stack H s E2 ev s3)
  (k:∀e t C H' B h4,ev=.ref e->E2 (.ref C) none H'->Hel X pins σ H' e t C B { s3 with heap:=h4 }->Q () { s3 with heap:=h4 }):wpAny (model X.prog X.w) X.A (noteFrame ev X.env) Q E s3:=by
 obtain⟨e,t,C,H',B,rfl,hos,mO,U2,hok,hE2,fl0,cov,iu⟩:=hx
 refine wpAny_looks_onW (outer:=X.outer) (by rw[I.ok.frames,hs]) hf (by rw[← hs];exact fl0) λh4 held up4=>?_
 obtain⟨U,hk⟩:=wQ U2 hok fl0.1 fl0.2.2.1 held.1 up4 cov iu
 exact k e t C H' B h4 rfl hE2 ⟨⟨H,s,I,hos,U,cov⟩,mO,hk,by rw[hs];exact held,iu⟩
theorem uV{base h:Heap}{env:Env}{outer:List Env}{L:Addr}{cls:Value}{args:List Value}{A:Around}{M:Model}{Q:Unit->Shared->Prop}
  (hfr:A.frames=some (env::outer)) (hf:env.frame=some L) (hkb:base.StaysIn h) (hl:h.FunFrames base (env::outer)) (hx:Heap.MadeExcOf h s.heap e cls args)
  (hQ:∀h' t,Heap.HeldW base (env::outer) e cls (.ref t) L h'->s.heap.UpToSlots h'->Q () { s with heap:=h' }):wpAny M A (noteFrame (.ref e) env) Q E s:=by
 obtain⟨t,he,htn,ht⟩:=hx.there
 have fresh:∀b,h.get? b=none->base.get? b=none:=λb hb=>by
  cases hq:base.get? b with
  | none=>rfl
  | some o'=>have:=hkb b o' hq;rw[hb] at this;cases this
 unfold noteFrame
 simp only[hf]
 refine wpAny_bind (wpAny_field he rfl (x:=.none) rfl ?_)
 rw[if_neg (by decide)]
 refine wpAny_entryW (a0:=.ref t) hfr (hl.of_keeps λb o hb _=>⟨o,hx.keeps b o hb,rfl⟩) hf he (λb o hb=>hx.keeps b o (hkb b o hb)) (fresh e hx.new) rfl (by simp) rfl λh' hN=>?_
 obtain⟨k1,k2,k3,k4⟩:=hN
 exact hQ h' t ⟨k1,fresh e hx.new,k2,k3⟩ k4
theorem Bk{Q:Unit->Shared->Prop}{h':Heap}{vs:List Value}(hs:X.stack=X.env::X.outer)(hf:X.env.frame=some X.env.locals)(I:Inv X pins σ H s)(hx:Heap.MadeExcOf s.heap h' e (.ref C) vs)
  (k:∀t B h4,Hel X pins σ H e t C B { s with heap:=h4 }->Q () { s with heap:=h4 }):wpAny (model X.prog X.w) X.A (noteFrame (.ref e) X.env) Q E { s with heap:=h' }:=by
 have hin:∀env∈X.stack,∀b,env.frame=some b->b∈frs X.stack:=λenv he b hb=>List.mem_filterMap.mpr ⟨env,he,hb⟩
 have hst:=I.stack
 have hnf:∀b,b∈frs X.stack->H b=none:=I.j5
 have hff:s.heap.FunFrames (PySem.W.hideAll s.heap (frs X.stack)) X.stack:=PySem.W.funFrames_hide hst hin
 refine uV (s:={ s with heap:=h' }) (base:=PySem.W.hideAll s.heap (frs X.stack)) (h:=s.heap) (outer:=X.outer) (by rw[I.ok.frames,hs]) hf (λb o q=>PySem.W.of_hideAll _ q) (by rw[← hs];exact hff) hx λh4 t held up=>?_
 have kp:s.heap.UpToSlots h4:=(Heap.UpToSlots.of_keeps hx.keeps).trans up
 have keep:∀b o,s.heap.get? b=some o->b∉frs X.stack->h4.get? b=some o:=λb o q nf=>held.1 b o (PySem.W.hideAll_get _ q nf)
 have slot:∀b o,s.heap.get? b=some o->b∈frs X.stack->∃sl,h4.get? b=some { o with slots:=sl }:=λb o q hb=>by
  obtain⟨_,o',ho',hnr⟩:=hst.mem hb
  rw[q] at ho'
  cases ho'
  exact kp b o q hnr
 refine k t _ h4 ⟨⟨H,s,I,rfl,⟨λb o q n nb _=>keep b o q nb,λb o q n hb _=>slot b o q hb,λb o q n _=>n,λb o q _=>?_,λb xs q=>q,λb o u q=>q,λb ps q=>⟨#[],by rw[q];simp⟩⟩,λb o q nb=>⟨o,PySem.W.hideAll_get _ q nb⟩⟩,I.bare,λa o q=>?_,by rw[hs];rw[hs] at held;exact held,λb o q=>?_⟩
 ·by_cases hb:b∈frs X.stack
  ·obtain⟨sl,e2⟩:=slot b o q hb
   exact⟨_,e2⟩
  ·exact⟨o,keep b o q hb⟩
 ·refine(I.hok a o q).kY (λc v hc r=>keep c v r λhb=>?_) (λ_ r=>r) λ_ _ r=>r
  have:=hnf c hb
  rcases hc with rfl|hc
  ·rw[this] at q;cases q
  ·rw[this] at hc;cases hc
 ·obtain⟨o',e1⟩:=cS.there (I.hok b o q)
  exact⟨o',PySem.W.hideAll_get _ e1 λhb=>by rw[hnf b hb] at q;cases q⟩
theorem Bl{Q:Unit->Shared->Prop}(hf:X.env.frame=some X.env.locals)(c:Hel X pins σ H' e t C B s)(k:∀h',Hel X pins σ H' e t C B { s with heap:=h' }->Q () { s with heap:=h' }) :
  wpAny (model X.prog X.w) X.A (do
   if (← field (.ref e) 1)==.none then unsupported "frame.own-activation:exception-without-traceback"
   setFlight (.ref e) X.env.frame) Q E s:=by
 obtain⟨hkb,hen,hl,oe,vs,T,oT,ts,he,jD,hd,h1,hnT,hTe,hT,hdT,h3⟩:=c.held
 have Lu:3<ts.size:=(Array.getElem?_eq_some_iff.mp h3).1
 have other:∀b,b≠T->(s.heap.update T (Obj.mapFields (·.setIfInBounds 3 ((some X.env.locals).elim Value.none λf=>rawInt f)))).get? b=s.heap.get? b :=
  λb hb=>Heap.get?_update_other _ _ (Ne.symm hb)
 have sx:∀b o,s.heap.get? b=some o->(∀vs,o.data≠.fields vs)->b≠T:=λb o hb hnf q=>by
  rw[q,hT] at hb;injection hb with hb;subst hb;exact hnf ts hdT
 refine wpAny_bind (wpAny_field he hd h1 ?_)
 rw[if_neg (show ¬ ((Value.ref T==Value.none)=true) from by simp)]
 first|(show wpAny _ _ (setFlight (.ref e) X.env.frame) _ _ _)|(refine wpAny_bind (wpAny_pure ?_))
 rw[hf]
 unfold setFlight
 refine wpAny_bind (wpAny_field he hd h1 ?_)
 rw[if_pos (show(Value.ref T != Value.none)=true from by simp)]
 refine wpAny_setField hT hdT Lu (k _ (c.slots ⟨λb o hbo=>(other b λq=>by rw[q,hnT] at hbo;cases hbo).trans (hkb b o hbo),hen,
  hl.of_keeps λb o hb hnf=>⟨o,(other b (sx b o hb hnf)).trans hb,rfl⟩,?_⟩ λb o hb hnf=>⟨o.slots,(other b (sx b o hb hnf)).trans hb⟩))
 exact⟨oe,vs,T,_,_,(other e (Ne.symm hTe)).trans he,jD,hd,h1,hnT,hTe,Heap.get?_update_self _ hT (Obj.isFreed_of_fields (Obj.data_mapFields hdT _)),Obj.data_mapFields hdT _,by simp[Lu]⟩
theorem yp{Q:Unit->Shared->Prop}(hf:X.env.frame=some X.env.locals)(c:Hel X pins σ H' e t C B s)(k:Q () s):wpAny (model X.prog X.w) X.A (noteFrame (.ref e) X.env) Q E s :=
 wpAny_noteFrame_againW hf c.held.2.2.2 k
end
theorem Jf{P:Program}{w:World}{K:PySem.W.Frag}{mg:Str->Option Value}{base:Heap}{N:List Str}{qual:Str}{scope:Scope}{f:Addr}{cd:Value}{A:Around}{outer:List Env}{s:Shared}{H:Hp}{E:XK}
  {pins:List (Addr×Obj)}{σ:L2.St}{H':Hp}{s3:Shared}{e t C:Addr}{B:Heap}
  (c:Hel (j8 (CX1 P w) P w K mg base N qual scope f cd A outer s H E) pins σ H' e t C B s3) (hE:E (.ref C) none H') :
  (j8 (CX1 P w) P w K mg base N qual scope f cd A outer s H E).xe (.ref e) s3:=by
 obtain⟨H2,s2,I,hos,U2,cov⟩:=c.org
 have hh:Heap.HeldW B (envOfC qual scope s.heap.objs.size f cd::outer) e (.ref C) (.ref t) s.heap.objs.size s3.heap:=c.held
 have iu:=c.cov
 have hok:=c.hok
 show wpAny _ _ (leaving _ (.ref e)) _ _ _
 unfold leaving
 refine wpAny_bind (wpAny_noteFrame_againW rfl hh.2.2.2 ?_)
 refine wpAny_landsW hh λh'' fl up=>?_
 have U:=I.base
 have nl:∀b o,s.heap.get? b=some o->b∉frs outer->b∉frs (envOfC qual scope s.heap.objs.size f cd::outer):=λb o q nb hb=>by
  rcases List.mem_cons.mp (show b∈s.heap.objs.size::frs outer from hb) with z|z
  ·exact absurd (Heap.lt_size q) (by rw[z];exact Nat.lt_irrefl _)
  ·exact nb z
 have same:∀b o o',s3.heap.get? b=some o->B.get? b=some o'->h''.get? b=some o:=λb o o' q1 q2=>by
  have:=hh.1 b o' q2
  rw[q1] at this
  cases this
  exact fl.1 b o q2
 have slot:∀b o,s3.heap.get? b=some o->b∈frs (envOfC qual scope s.heap.objs.size f cd::outer)->∃sl,h''.get? b=some { o with slots:=sl }:=λb o q hb=>by
  obtain⟨_,o',ho',hnr⟩:=hh.2.2.1.mem hb
  rw[q] at ho'
  cases ho'
  exact up b o q hnr
 obtain⟨k1,k2,⟨_,_,k3⟩,k4⟩:=fl
 refine⟨e,t,C,H',B,rfl,hos.trans I.os,c.bare,⟨λb o q n nb _=>?_,λb o q n hb _=>?_,λb o q n _=>?_,λb o q _=>?_,λb xs q=>U2.il b xs (U.il b xs q),λb o u q=>U2.bS b o u (U.bS b o u q),λb ps q=>?_⟩,λa o q=>?_,hE,⟨k1,k2,k3,k4⟩,λb o q nb=>?_,iu⟩
 ·have q1:=U.keep b o q n nb (λz=>nomatch z)
  have n1:=U.free b o q n (λz=>nomatch z)
  have nl1:=nl b o q nb
  obtain⟨o',hB⟩:=cov b o q1 nl1
  exact same b o o' (U2.keep b o q1 n1 nl1 (λz=>nomatch z)) hB
 ·obtain⟨sl,e1⟩:=U.slot b o q n hb (λz=>nomatch z)
  have n1:=U.free b o q n (λz=>nomatch z)
  obtain⟨sl2,e2⟩:=U2.slot b _ e1 n1 (List.mem_cons_of_mem _ hb) (λz=>nomatch z)
  obtain⟨sl3,e3⟩:=slot b _ e2 (List.mem_cons_of_mem _ hb)
  exact⟨sl3,e3⟩
 ·have n1:=U.free b o q n (λz=>nomatch z)
  obtain⟨o1,e1⟩:=U.there b o q (λz=>nomatch z)
  exact U2.free b o1 e1 n1 (λz=>nomatch z)
 ·obtain⟨o1,e1⟩:=U.there b o q (λz=>nomatch z)
  obtain⟨o2,e2⟩:=U2.there b o1 e1 (λz=>nomatch z)
  by_cases hb:b∈frs (envOfC qual scope s.heap.objs.size f cd::outer)
  ·obtain⟨sl,e3⟩:=slot b o2 e2 hb
   exact⟨_,e3⟩
  ·obtain⟨o',hB⟩:=cov b o1 e1 hb
   exact⟨o2,same b o2 o' e2 hB⟩
 ·obtain⟨m1,e1⟩:=U.ip b ps q
  obtain⟨m2,e2⟩:=U2.ip b _ e1
  exact⟨m1++m2,by rw[e2,Array.append_assoc]⟩
 ·refine(hok a o q).kY (λc v hc r=>?_) (λ_ r=>r) λ_ _ r=>r
  have hT:∃o1,H' c=some o1:=by
   rcases hc with rfl|hc
   ·exact⟨_,q⟩
   ·exact⟨_,hc⟩
  obtain⟨o1,h1⟩:=hT
  obtain⟨o',hB⟩:=iu c o1 h1
  exact same c v o' r hB
 ·obtain⟨o1,e1⟩:=U.there b o q (λz=>nomatch z)
  exact cov b o1 e1 (nl b o q nb)
end L2
namespace Fw
open PySem
abbrev Key:=Sum Int Str
inductive T where
 | non|bl (b:Bool)|int (i:Int)|str (x:Str)
 | lst (ts:List T)|tup (ts:List T)|dct (kts:List (Key×T))|exc (c:Str) (t:Option Str)|dtt (fz:Bool) (kts:List (List Int×Bool))
inductive SV where
 | val (t:T)|cel (k:Nat)|box (xs:List (Sum T Nat))
abbrev aa:=List (Bool×T)
abbrev Slots:=List (Option SV)
inductive R(α:Type) where
 | ok (a:α) (μ:aa)|err (c:T) (μ:aa)|bad
noncomputable def R.bind {α β : Type} (x : R α) (f : α -> aa -> R β) : R β := match x with
 | .ok a μ=>f a μ
 | .err c μ=>.err c μ
 | .bad=>.bad
@[simp] theorem R.aQ{α β:Type}(a:α)(μ:aa)(f:α->aa->R β):(R.ok a μ).bind f=f a μ:=(rfl)
noncomputable def R.lift {α : Type} (o : Option α) (μ : aa) : R α := match o with
 | some a=>.ok a μ
 | none=>.bad
@[simp] theorem R.bf{α:Type}(a:α)(μ:aa):R.lift (some a) μ=.ok a μ:=(rfl)
theorem R.aJ{α β:Type}{x:R α}{f:α->aa->R β}{b:β}{μ:aa}(h:x.bind f=.ok b μ):∃a μ1,x=.ok a μ1/\f a μ1=.ok b μ:=by
 cases x with
 | ok a μ1=>exact⟨a,μ1,rfl,h⟩
 | err c μ1=>cases h
 | bad=>cases h
theorem R.jE{α:Type}{o:Option α}{μ μ':aa}{a:α}(h:R.lift o μ=.ok a μ'):o=some a/\μ=μ':=by
 cases o with
 | none=>cases h
 | some x=>cases h;exact⟨rfl,rfl⟩
def R.calm{α:Type}:R α->R α
 | .ok a μ=>.ok a μ
 | _=>.bad
@[simp] theorem R.iZ{α:Type}(a:α)(μ:aa):(R.ok a μ).calm=.ok a μ:=(rfl)
theorem R.calm_eq{α:Type}{r:R α}{a:α}{μ:aa}(h:r.calm=.ok a μ):r=.ok a μ:=by
 cases r with
 | ok b ν=>exact h
 | err c ν=>cases h
 | bad=>cases h
abbrev D:=Slots->aa->R SV
noncomputable def szL : Nat := 16777216
noncomputable def rd (μ : aa) : SV -> Option T
 | .val t=>some t
 | .cel k=>(μ[k]?).map (·.2)
 | .box _=>none
@[simp] theorem Bm(μ:aa)(t:T):rd μ (.val t)=some t:=(rfl)
noncomputable def yq (x : Sum T Nat) (μ : aa) : R T := match x with
 | .inl t=>.ok t μ
 | .inr k=>match μ[k]? with
  | some (_,t)=>.ok t (μ.set k (false,t))
  | none=>.bad
def j9:List (Sum T Nat)->aa->R (List T)
 | [],μ=>.ok [] μ
 | x::xs,μ=>(yq x μ).bind λt μ1=>(j9 xs μ1).bind λts μ2=>.ok (t::ts) μ2
def frz(sv:SV)(μ:aa):R T:=match sv with
 | .val t=>.ok t μ
 | .cel k=>match μ[k]? with
  | some (_,t)=>.ok t (μ.set k (false,t))
  | none=>.bad
 | .box xs=>(j9 xs μ).bind λts μ1=>.ok (.tup ts) μ1
@[simp] theorem wR(μ:aa)(t:T):frz (.val t) μ=.ok t μ:=(rfl)
def bS:List SV->aa->R (List T)
 | [],μ=>.ok [] μ
 | x::xs,μ=>(frz x μ).bind λt μ1=>(bS xs μ1).bind λts μ2=>.ok (t::ts) μ2
@[simp] theorem Bo(μ:aa):bS [] μ=.ok [] μ:=(rfl)
@[simp] theorem k7(x:SV)(xs:List SV)(μ:aa):bS (x::xs) μ=(frz x μ).bind λt μ1=>(bS xs μ1).bind λts μ2=>.ok (t::ts) μ2:=(rfl)
theorem Fj(x:Sum T Nat)(μ:aa)(c:T)(μ':aa):yq x μ≠.err c μ':=by
 cases x with
 | inl t=>intro h;cases h
 | inr k =>
  unfold yq
  cases q:μ[k]? with
  | none=>simp[q]
  | some p=>simp[q]
theorem sy:∀(xs:List (Sum T Nat)) (μ:aa) (c:T) (μ':aa),j9 xs μ≠.err c μ'
 | [],μ,c,μ'=>by intro h;cases h
 | x::xs,μ,c,μ'=>by
  unfold j9
  cases q:yq x μ with
  | err d μ1=>exact absurd q (Fj x μ d μ1)
  | bad=>intro h;cases h
  | ok t μ1 =>
   rw[R.aQ]
   cases q2:j9 xs μ1 with
   | err d μ2=>exact absurd q2 (sy xs μ1 d μ2)
   | bad=>intro h;cases h
   | ok ts μ2=>intro h;cases h
theorem qo(x:SV)(μ:aa)(c:T)(μ':aa):frz x μ≠.err c μ':=by
 cases x with
 | val t=>intro h;cases h
 | cel k =>
  unfold frz
  cases q:μ[k]? with
  | none=>simp[q]
  | some p=>simp[q]
 | box xs =>
  show(j9 xs μ).bind _≠_
  cases q:j9 xs μ with
  | err d μ1=>exact absurd q (sy xs μ d μ1)
  | bad=>intro h;cases h
  | ok t μ1=>intro h;cases h
theorem mi:∀(xs:List SV) (μ:aa) (c:T) (μ':aa),bS xs μ≠.err c μ'
 | [],μ,c,μ'=>by intro h;cases h
 | x::xs,μ,c,μ'=>by
  rw[k7]
  cases q:frz x μ with
  | err d μ1=>exact absurd q (qo x μ d μ1)
  | bad=>intro h;cases h
  | ok t μ1 =>
   rw[R.aQ]
   cases q2:bS xs μ1 with
   | err d μ2=>exact absurd q2 (mi xs μ1 d μ2)
   | bad=>intro h;cases h
   | ok ts μ2=>intro h;cases h
noncomputable def slot (e : Slots) (i : Nat) : Option SV := match e[i]? with
 | some (some sv)=>some sv
 | _=>none
@[simp] theorem yr(x:SV)(e:Slots):slot (some x::e) 0=some x:=(rfl)
@[simp] theorem yt(e:Slots):slot (none::e) 0=none:=(rfl)
@[simp] theorem yu(x:Option SV)(e:Slots)(i:Nat):slot (x::e) (i+1)=slot e i:=(rfl)
def ae(i:Nat):D:=λe μ=>R.lift (slot e i) μ
@[simp] theorem Fl(i:Nat)(e:Slots)(μ:aa):ae i e μ=R.lift (slot e i) μ:=(rfl)
noncomputable def dC (t : T) : D := fun _ μ => .ok (.val t) μ
@[simp] theorem sA(t:T)(e:Slots)(μ:aa):dC t e μ=.ok (.val t) μ:=(rfl)
noncomputable def ap1 (f : T -> Option T) : Option T -> Option SV
 | some t=>(f t).map SV.val
 | none=>none
noncomputable def ap2 (f : T -> T -> Option T) : Option T -> Option T -> Option SV
 | some t,some u=>(f t u).map SV.val
 | _,_=>none
@[simp] theorem Bp(f:T->Option T)(t:T):ap1 f (some t)=(f t).map SV.val:=(rfl)
@[simp] theorem Bq(f:T->T->Option T)(t u:T):ap2 f (some t) (some u)=(f t u).map SV.val:=(rfl)
theorem k8{f:T->Option T}{o:Option T}{w:SV}(h:ap1 f o=some w):∃t u,o=some t/\f t=some u/\w=.val u:=by
 cases o with
 | none=>cases h
 | some t =>
  obtain⟨u,h1,rfl⟩:=Option.map_eq_some_iff.mp (show(f t).map SV.val=some w from h)
  exact⟨t,u,rfl,h1,rfl⟩
theorem k9{f:T->T->Option T}{o p:Option T}{w:SV}(h:ap2 f o p=some w):∃t u v,o=some t/\p=some u/\f t u=some v/\w=.val v:=by
 cases o with
 | none=>cases p<;>cases h
 | some t =>
  cases p with
  | none=>cases h
  | some u =>
   obtain⟨v,h1,rfl⟩:=Option.map_eq_some_iff.mp (show(f t u).map SV.val=some w from h)
   exact⟨t,u,v,rfl,rfl,h1,rfl⟩
def dUn(f:T->Option T)(a:D):D:=λe μ=>(a e μ).bind λx μ1=>R.lift (ap1 f (rd μ1 x)) μ1
@[simp] theorem qp(f:T->Option T)(a:D)(e:Slots)(μ:aa):dUn f a e μ=(a e μ).bind λx μ1=>R.lift (ap1 f (rd μ1 x)) μ1:=(rfl)
def ah(f:T->T->Option T)(a b:D):D:=λe μ=>(a e μ).bind λx μ1=>(b e μ1).bind λy μ2=>R.lift (ap2 f (rd μ2 x) (rd μ2 y)) μ2
@[simp] theorem gz(f:T->T->Option T)(a b:D)(e:Slots)(μ:aa):ah f a b e μ=(a e μ).bind λx μ1=>(b e μ1).bind λy μ2=>R.lift (ap2 f (rd μ2 x) (rd μ2 y)) μ2:=(rfl)
noncomputable def asB : SV -> Option Bool
 | .val (.bl b)=>some b
 | _=>none
@[simp] theorem du(b:Bool):asB (.val (.bl b))=some b:=(rfl)
def j_(a b:D):D:=λe μ=>(a e μ).bind λx μ1=>(R.lift (asB x) μ1).bind λk μ1=>if k=true then b e μ1 else .ok (.val (.bl false)) μ1
def dOr(a b:D):D:=λe μ=>(a e μ).bind λx μ1=>(R.lift (asB x) μ1).bind λk μ1=>if k=true then .ok (.val (.bl true)) μ1 else b e μ1
def gA(a:D):D:=λe μ=>(a e μ).bind λx μ1=>(R.lift (asB x) μ1).bind λk μ1=>.ok (.val (.bl (!k))) μ1
def Nb(c a b:D):D:=λe μ=>(c e μ).bind λx μ1=>(R.lift (asB x) μ1).bind λk μ1=>if k=true then a e μ1 else b e μ1
@[simp] theorem Fm(a b:D)(e:Slots)(μ:aa):j_ a b e μ=(a e μ).bind λx μ1=>(R.lift (asB x) μ1).bind λk μ1=>if k=true then b e μ1 else .ok (.val (.bl false)) μ1:=(rfl)
@[simp] theorem Jg(a b:D)(e:Slots)(μ:aa):dOr a b e μ=(a e μ).bind λx μ1=>(R.lift (asB x) μ1).bind λk μ1=>if k=true then .ok (.val (.bl true)) μ1 else b e μ1:=(rfl)
@[simp] theorem Fn(a:D)(e:Slots)(μ:aa):gA a e μ=(a e μ).bind λx μ1=>(R.lift (asB x) μ1).bind λk μ1=>.ok (.val (.bl (!k))) μ1:=(rfl)
@[simp] theorem Fo(c a b:D)(e:Slots)(μ:aa):Nb c a b e μ=(c e μ).bind λx μ1=>(R.lift (asB x) μ1).bind λk μ1=>if k=true then a e μ1 else b e μ1:=(rfl)
def bW:List D->Slots->aa->R (List SV)
 | [],_,μ=>.ok [] μ
 | d::ds,e,μ=>(d e μ).bind λx μ1=>(bW ds e μ1).bind λxs μ2=>.ok (x::xs) μ2
@[simp] theorem yv(e:Slots)(μ:aa):bW [] e μ=.ok [] μ:=(rfl)
@[simp] theorem bz(d:D)(ds:List D)(e:Slots)(μ:aa):bW (d::ds) e μ=(d e μ).bind λx μ1=>(bW ds e μ1).bind λxs μ2=>.ok (x::xs) μ2:=(rfl)
def eP(ds:List D):D:=λe μ=>(bW ds e μ).bind λxs μ1=>(bS xs μ1).bind λts μ2=>.ok (.val (.tup ts)) μ2
def bq(ds:List D):D:=λe μ=>(bW ds e μ).bind λxs μ1=>(bS xs μ1).bind λts μ2=>.ok (.val (.lst ts)) μ2
@[simp] theorem Fp(ds:List D)(e:Slots)(μ:aa):eP ds e μ=(bW ds e μ).bind λxs μ1=>(bS xs μ1).bind λts μ2=>.ok (.val (.tup ts)) μ2:=(rfl)
@[simp] theorem wU(ds:List D)(e:Slots)(μ:aa):bq ds e μ=(bW ds e μ).bind λxs μ1=>(bS xs μ1).bind λts μ2=>.ok (.val (.lst ts)) μ2:=(rfl)
def lZ(f:T->T->Option T)(ds:List D)(b:D):D:=λe μ=>(bW ds e μ).bind λxs μ1=>(bS xs μ1).bind λts μ2=>(b e μ2).bind λy μ3=>R.lift (ap1 (f (.lst ts)) (rd μ3 y)) μ3
@[simp] theorem Fq(f:T->T->Option T)(ds:List D)(b:D)(e:Slots)(μ:aa):lZ f ds b e μ=(bW ds e μ).bind λxs μ1=>(bS xs μ1).bind λts μ2=>(b e μ2).bind λy μ3=>R.lift (ap1 (f (.lst ts)) (rd μ3 y)) μ3:=(rfl)
def boxed:List SV->Option (List (Sum T Nat))
 | []=>some []
 | .val t::xs=>(boxed xs).map λys=>.inl t::ys
 | .cel k::xs=>(boxed xs).map λys=>.inr k::ys
 | .box _::_=>none
def Nc(ds:List D):D:=λe μ=>(bW ds e μ).bind λxs μ1=>(R.lift (boxed xs) μ1).bind λys μ1=>.ok (.box ys) μ1
@[simp] theorem Fs(ds:List D)(e:Slots)(μ:aa):Nc ds e μ=(bW ds e μ).bind λxs μ1=>(R.lift (boxed xs) μ1).bind λys μ1=>.ok (.box ys) μ1:=(rfl)
def cell(t:T)(μ:aa):R SV:=.ok (.cel μ.length) (μ++[(true,t)])
def bQ(d:D):D:=λe μ=>(d e μ).bind λx μ1=>match x with
 | .val t=>cell t μ1
 | .cel k=>.ok (.cel k) μ1
 | .box xs=>.ok (.box xs) μ1
def toCell(x:SV)(μ:aa):R SV:=match x with
 | .val t=>cell t μ
 | .cel k=>.ok (.cel k) μ
 | .box xs=>.ok (.box xs) μ
@[simp] theorem toCell_val(t:T)(μ:aa):toCell (.val t) μ=.ok (.cel μ.length) (μ++[(true,t)]):=(rfl)
@[simp] theorem sC(d:D)(e:Slots)(μ:aa):bQ d e μ=(d e μ).bind toCell:=by
 unfold bQ toCell;rfl
abbrev FN:=List SV->aa->R SV
def ax(f:FN)(ds:List D):D:=λe μ=>(bW ds e μ).bind λxs μ1=>f xs μ1
@[simp] theorem Br(f:FN)(ds:List D)(e:Slots)(μ:aa):ax f ds e μ=(bW ds e μ).bind λxs μ1=>f xs μ1:=(rfl)
def cal(f:FN):FN:=λxs μ=>(f xs μ).calm
@[simp] theorem Jh(f:FN)(xs:List SV)(μ:aa):cal f xs μ=(f xs μ).calm:=(rfl)
noncomputable def ixN (n : Nat) (i : Int) : Option Nat := if 0 ≤ i then (if i < n then some i.toNat else none) else if -(n : Int) ≤ i then some (i + n).toNat else none
noncomputable def atI {α : Type} (xs : List α) (i : Int) : Option α := (ixN xs.length i).bind fun j => xs[j]?
noncomputable def sIx (n d : Nat) : Option Int -> Nat
 | none=>d
 | some v=>if v<0 then (v+(n:Int)).toNat else min v.toNat n
def av:T->T->Option T
 | .int i,.int j=>some (.int (i+j))
 | .str x,.str y=>if x.length+y.length≤szL then some (.str (x++y)) else none
 | .tup xs,.tup ys=>if xs.length+ys.length≤szL then some (.tup (xs++ys)) else none
 | .lst xs,.lst ys=>if xs.length+ys.length≤szL then some (.lst (xs++ys)) else none
 | _,_=>none
theorem Bs(xs ys:List T)(h:xs.length+ys.length≤szL):av (.lst xs) (.lst ys)=some (.lst (xs++ys)):=if_pos h
theorem ee(x y:Str)(h:x.length+y.length≤szL):av (.str x) (.str y)=some (.str (x++y)):=if_pos h
@[simp] theorem Bt(i j:Int):av (.int i) (.int j)=some (.int (i+j)):=(rfl)
def l4:T->T->Option T
 | .lst xs,.int k=>if -(2 ^ 63)≤k/\k<2 ^ 63/\xs.length*k.toNat≤szL then some (.lst (List.replicate k.toNat xs).flatten) else none
 | _,_=>none
def k_:T->T->Option T
 | .int i,.int j=>some (.int (i-j))
 | _,_=>none
@[simp] theorem Bu(i j:Int):k_ (.int i) (.int j)=some (.int (i-j)):=(rfl)
def Ji:T->T->Option T
 | .int i,.int j=>if (-(2 ^ 64)<i/\i<2 ^ 64)∨(-(2 ^ 64)<j/\j<2 ^ 64) then some (.int (i*j)) else none
 | _,_=>none
def cg(t u:T):Option T:=Ji t u
theorem Jj(i j:Int)(h1:-18446744073709551616<i)(h2:i<18446744073709551616):Ji (.int i) (.int j)=some (.int (i*j)):=if_pos (.inl ⟨h1,h2⟩)
theorem Jk(i j:Int)(h1:-18446744073709551616<j)(h2:j<18446744073709551616):Ji (.int i) (.int j)=some (.int (i*j)):=if_pos (.inr ⟨h1,h2⟩)
@[simp] theorem Ft(i j:Int)(h1:-18446744073709551616<i)(h2:i<18446744073709551616):cg (.int i) (.int j)=some (.int (i*j)):=Jj i j h1 h2
@[simp] theorem ka(i j:Int)(h1:-18446744073709551616<j)(h2:j<18446744073709551616):cg (.int i) (.int j)=some (.int (i*j)):=Jk i j h1 h2
def bp:T->T->Option T
 | .int i,.int j=>if 0<j then some (.int (i%j)) else none
 | _,_=>none
@[simp] theorem kb(i j:Int)(h:0<j):bp (.int i) (.int j)=some (.int (i%j)):=if_pos h
def cB:T->T->Option T
 | .int i,.int j=>if 0<j/\j<1073741824 then some (.int (i / j)) else none
 | _,_=>none
@[simp] theorem mR(i j:Int)(h:0<j)(h2:j<1073741824):cB (.int i) (.int j)=some (.int (i / j)):=if_pos ⟨h,h2⟩
def Nd:T->Option T
 | .int i=>some (.int (-i))
 | _=>none
@[simp] theorem Bv(i:Int):Nd (.int i)=some (.int (-i)):=(rfl)
def fLt:T->T->Option T
 | .int i,.int j=>some (.bl (decide (i<j)))
 | _,_=>none
def fLe:T->T->Option T
 | .int i,.int j=>some (.bl (decide (i≤j)))
 | _,_=>none
def fGt:T->T->Option T
 | .int i,.int j=>some (.bl (decide (j<i)))
 | _,_=>none
def fGe:T->T->Option T
 | .int i,.int j=>some (.bl (decide (j≤i)))
 | _,_=>none
@[simp] theorem Fu(i j:Int):fLt (.int i) (.int j)=some (.bl (decide (i<j))):=(rfl)
@[simp] theorem Fv(i j:Int):fLe (.int i) (.int j)=some (.bl (decide (i≤j))):=(rfl)
@[simp] theorem Fx(i j:Int):fGt (.int i) (.int j)=some (.bl (decide (j<i))):=(rfl)
@[simp] theorem Fy(i j:Int):fGe (.int i) (.int j)=some (.bl (decide (j≤i))):=(rfl)
mutual
def eqT:T->T->Bool
 | .non,.non=>true
 | .bl a,.bl b=>a==b
 | .bl a,.int b=>(if a then 1 else 0)==b
 | .int a,.bl b=>a==(if b then 1 else 0)
 | .int a,.int b=>a==b
 | .str a,.str b=>a==b
 | .lst a,.lst b=>gf a b
 | .tup a,.tup b=>gf a b
 | _,_=>false
def gf:List T->List T->Bool
 | [],[]=>true
 | a::as,b::bs=>eqT a b && gf as bs
 | [],_::_=>false
 | _::_,[]=>false
end
mutual
def okT:Nat->T->Bool
 | _,.non=>true
 | _,.bl _=>true
 | _,.int _=>true
 | _,.str x=>x.cps.all (·<1114112)
 | 0,.lst _=>false
 | n+1,.lst ts=>gg n ts
 | 0,.tup _=>false
 | n+1,.tup ts=>gg n ts
 | _,.dct _=>false
 | _,.exc _ _=>false
 | _,.dtt _ _=>false
def gg:Nat->List T->Bool
 | _,[]=>true
 | n,t::ts=>okT n t && gg n ts
end
def fEq(t u:T):Option T:=match t,u with
 | .str a,.str b=>some (.bl (a==b))
 | t,u=>if okT 100 t=true/\okT 100 u=true then some (.bl (eqT t u)) else none
def fNe(t u:T):Option T:=match t,u with
 | .str a,.str b=>some (.bl (!(a==b)))
 | t,u=>if okT 100 t=true/\okT 100 u=true then some (.bl (!eqT t u)) else none
@[simp] theorem MC(n:Nat)(i:Int):okT n (.int i)=true:=by unfold okT;rfl
@[simp] theorem wV(n:Nat)(ts:List T):okT (n+1) (.lst ts)=gg n ts:=by rw[okT]
@[simp] theorem Bw(n:Nat):gg n []=true:=by rw[gg]
@[simp] theorem yw(n:Nat)(t:T)(ts:List T):gg n (t::ts)=(okT n t && gg n ts):=by rw[gg]
theorem sD(n:Nat):∀ts:List T,gg n ts=true↔∀t∈ts,okT n t=true
 | []=>by simp
 | t::ts=>by simp[sD n ts]
@[simp] theorem Kp(n:Nat)(ns:List Int):gg n (ns.map T.int)=true:=by
 rw[sD]
 intro t ht
 obtain⟨i,_,rfl⟩:=List.mem_map.mp ht
 simp
@[simp] theorem MD(i j:Int):eqT (.int i) (.int j)=(i==j):=by rw[eqT]
@[simp] theorem ME(i j:Str):eqT (.str i) (.str j)=(i==j):=by rw[eqT]
@[simp] theorem Fz(i j:List T):eqT (.lst i) (.lst j)=gf i j:=by rw[eqT]
@[simp] theorem Lv:gf [] []=true:=by rw[gf]
@[simp] theorem Kq(a b:T)(as bs:List T):gf (a::as) (b::bs)=(eqT a b && gf as bs):=by rw[gf]
@[simp] theorem MF(b:T)(bs:List T):gf [] (b::bs)=false:=by rw[gf]
@[simp] theorem MG(b:T)(bs:List T):gf (b::bs) []=false:=by rw[gf]
theorem lg:∀(xs ys:List Int),gf (xs.map T.int) (ys.map T.int)=(xs==ys)
 | [],[]=>by simp
 | [],y::ys=>by simp
 | x::xs,[]=>by simp
 | x::xs,y::ys=>by simp[lg xs ys]
theorem Bx{t u:T}(h1:okT 100 t=true)(h2:okT 100 u=true):fEq t u=some (.bl (eqT t u)):=by
 unfold fEq
 split
 ·simp
 ·rw[if_pos ⟨h1,h2⟩]
theorem By{t u:T}(h1:okT 100 t=true)(h2:okT 100 u=true):fNe t u=some (.bl (!eqT t u)):=by
 unfold fNe
 split
 ·simp
 ·rw[if_pos ⟨h1,h2⟩]
@[simp] theorem FA(i j:Int):fEq (.int i) (.int j)=some (.bl (i==j)):=by rw[Bx (by simp) (by simp)];simp
@[simp] theorem FC(i j:Int):fNe (.int i) (.int j)=some (.bl (!(i==j))):=by rw[By (by simp) (by simp)];simp
@[simp] theorem FD(i j:Str):fEq (.str i) (.str j)=some (.bl (i==j)):=(rfl)
@[simp] theorem FE(i j:Str):fNe (.str i) (.str j)=some (.bl (!(i==j))):=(rfl)
@[simp] theorem sE(xs ys:List Int):fEq (.lst (xs.map T.int)) (.lst (ys.map T.int))=some (.bl (xs==ys)):=by rw[Bx (by simp) (by simp)];simp[lg]
@[simp] theorem sF(xs ys:List Int):fNe (.lst (xs.map T.int)) (.lst (ys.map T.int))=some (.bl (!(xs==ys))):=by rw[By (by simp) (by simp)];simp[lg]
def iw:T->Option T
 | .non=>some (.bl true)
 | _=>some (.bl false)
def sG:T->T->Option T
 | .lst xs,.int i=>atI xs i
 | .tup xs,.int i=>atI xs i
 | .str x,.int i=>if x.length≤szL then (atI x.cps.toList i).map λc=>.str ⟨#[c]⟩ else none
 | _,_=>none
@[simp] theorem ix(xs:List T)(i:Int):sG (.lst xs) (.int i)=atI xs i:=(rfl)
def pick:Sum T Nat->SV
 | .inl t=>.val t
 | .inr k=>.cel k
def iy(μ:aa)(x:SV)(u:T):Option SV:=match x,u with
 | .box xs,.int i=>(atI xs i).map pick
 | .box _,_=>none
 | x,u=>ap1 (λt=>sG t u) (rd μ x)
def aF(a b:D):D:=λe μ=>(a e μ).bind λx μ1=>(b e μ1).bind λy μ2=>R.lift ((rd μ2 y).bind λu=>iy μ2 x u) μ2
@[simp] theorem FF(a b:D)(e:Slots)(μ:aa):aF a b e μ=(a e μ).bind λx μ1=>(b e μ1).bind λy μ2=>R.lift ((rd μ2 y).bind λu=>iy μ2 x u) μ2:=(rfl)
@[simp] theorem Bz(μ:aa)(xs:List T)(i:Int):iy μ (.val (.lst xs)) (.int i)=(atI xs i).map SV.val:=(rfl)
@[simp] theorem BA(μ:aa)(xs:List T)(i:Int):iy μ (.val (.tup xs)) (.int i)=(atI xs i).map SV.val:=(rfl)
@[simp] theorem BB(μ:aa)(xs:List (Sum T Nat))(i:Int):iy μ (.box xs) (.int i)=(atI xs i).map pick:=(rfl)
@[simp] theorem sH(μ:aa)(k:Nat)(u:T):iy μ (.cel k) u=ap1 (λt=>sG t u) (rd μ (.cel k)):=(rfl)
noncomputable def Lw : T -> Option T
 | .lst xs=>some (.int xs.length)
 | .tup xs=>some (.int xs.length)
 | .str x=>if x.length≤szL then some (.int x.length) else none
 | .dct kts=>some (.int kts.length)
 | _=>none
def jg(μ:aa):SV->Option T
 | .box xs=>some (.int xs.length)
 | x=>(rd μ x).bind Lw
def cC(a:D):D:=λe μ=>(a e μ).bind λx μ1=>R.lift ((jg μ1 x).map SV.val) μ1
@[simp] theorem FG(a:D)(e:Slots)(μ:aa):cC a e μ=(a e μ).bind λx μ1=>R.lift ((jg μ1 x).map SV.val) μ1:=(rfl)
@[simp] theorem BC(μ:aa)(xs:List T):jg μ (.val (.lst xs))=some (.int xs.length):=(rfl)
@[simp] theorem BE(μ:aa)(xs:List T):jg μ (.val (.tup xs))=some (.int xs.length):=(rfl)
inductive Kd where
 | int|bool|str|list|tuple|dict
noncomputable def isK : Kd -> T -> Bool
 | .int,.int _=>true
 | .int,.bl _=>true
 | .bool,.bl _=>true
 | .str,.str _=>true
 | .list,.lst _=>true
 | .tuple,.tup _=>true
 | .dict,.dct _=>true
 | .dict,.dtt _ _=>true
 | _,_=>false
def isT(k:Kd):T->Option T
 | .exc _ _=>none
 | .dtt _ _=>none
 | t=>some (.bl (isK k t))
def isS(k:Kd)(μ:aa):SV->Option T
 | .box _=>some (.bl (isK k (.tup [])))
 | x=>(rd μ x).bind (isT k)
@[simp] theorem i0(k:Kd)(i:Str):isT k (.str i)=some (.bl (isK k (.str i))):=(rfl)
def dIs(k:Kd)(a:D):D:=λe μ=>(a e μ).bind λx μ1=>R.lift ((isS k μ1 x).map SV.val) μ1
@[simp] theorem iz(k:Kd)(a:D)(e:Slots)(μ:aa):dIs k a e μ=(a e μ).bind λx μ1=>R.lift ((isS k μ1 x).map SV.val) μ1:=(rfl)
@[simp] theorem fE(k:Kd)(μ:aa)(t:T):isS k μ (.val t)=isT k t:=(rfl)
@[simp] theorem wW(k:Kd)(μ:aa)(j:Nat):isS k μ (.cel j)=(rd μ (.cel j)).bind (isT k):=(rfl)
def jF:T->Option T
 | .lst xs=>some (.tup xs)
 | .tup xs=>some (.tup xs)
 | _=>none
@[simp] theorem uW(xs:List T):jF (.lst xs)=some (.tup xs):=(rfl)
@[simp] theorem uX(xs:List T):jF (.tup xs)=some (.tup xs):=(rfl)
def Lx:T->Option T
 | .lst xs=>some (.lst xs)
 | .tup xs=>some (.lst xs)
 | _=>none
noncomputable def Nf : Key -> T
 | .inl i=>.int i
 | .inr x=>.str x
@[simp] theorem yx(xs:List T):Lx (.lst xs)=some (.lst xs):=(rfl)
def Ly{α:Type}(xs:List α)(lo hi:Option Int):List α:=(xs.drop (sIx xs.length 0 lo)).take (sIx xs.length xs.length hi-sIx xs.length 0 lo)
noncomputable def dN : T -> Option Int
 | .int i=>some i
 | _=>none
@[simp] theorem yz(i:Int):dN (.int i)=some i:=(rfl)
def BF:T->Option T
 | .non=>some (.bl false)
 | _=>some (.bl true)
@[simp] theorem uY:BF .non=some (.bl false):=(rfl)
@[simp] theorem uZ(i:Int):BF (.int i)=some (.bl true):=(rfl)
def eF(f g:T->T->Option T)(a b c:D):D:=λe μ=>(a e μ).bind λx μ1=>(b e μ1).bind λy μ2 =>
 (R.lift (ap2 f (rd μ2 x) (rd μ2 y)) μ2).bind λw μ2=>(R.lift (asB w) μ2).bind λk μ2 =>
 if k=true then (c e μ2).bind λz μ3=>R.lift (ap2 g (rd μ3 y) (rd μ3 z)) μ3 else .ok (.val (.bl false)) μ2
@[simp] theorem pv(f g:T->T->Option T)(a b c:D)(e:Slots)(μ:aa):eF f g a b c e μ=(a e μ).bind λx μ1=>(b e μ1).bind λy μ2 =>
 (R.lift (ap2 f (rd μ2 x) (rd μ2 y)) μ2).bind λw μ2=>(R.lift (asB w) μ2).bind λk μ2 =>
 if k=true then (c e μ2).bind λz μ3=>R.lift (ap2 g (rd μ3 y) (rd μ3 z)) μ3 else .ok (.val (.bl false)) μ2:=(rfl)
def Lz(t:T)(lo hi:Option Int):Option T:=match t with
 | .lst xs=>some (.lst (Ly xs lo hi))
 | .tup xs=>if sIx xs.length 0 lo=0/\sIx xs.length xs.length hi=xs.length then none else some (.tup (Ly xs lo hi))
 | _=>none
def mS(o:Option D)(e:Slots)(μ:aa):R (Option Int):=match o with
 | none=>.ok none μ
 | some d=>(d e μ).bind λx μ1=>(R.lift ((rd μ1 x).bind dN) μ1).bind λi μ1=>.ok (some i) μ1
@[simp] theorem yA(e:Slots)(μ:aa):mS none e μ=.ok none μ:=(rfl)
@[simp] theorem yB(d:D)(e:Slots)(μ:aa):mS (some d) e μ=(d e μ).bind λx μ1=>(R.lift ((rd μ1 x).bind dN) μ1).bind λi μ1=>.ok (some i) μ1:=(rfl)
def Ng(a:D)(lo hi:Option D):D:=λe μ=>(a e μ).bind λx μ1=>(mS lo e μ1).bind λl μ2=>(mS hi e μ2).bind λh μ3=>R.lift (ap1 (λt=>Lz t l h) (rd μ3 x)) μ3
@[simp] theorem FH(a:D)(lo hi:Option D)(e:Slots)(μ:aa):Ng a lo hi e μ=(a e μ).bind λx μ1=>(mS lo e μ1).bind λl μ2=>(mS hi e μ2).bind λh μ3=>R.lift (ap1 (λt=>Lz t l h) (rd μ3 x)) μ3:=(rfl)
inductive RS where
 | nx (e:Slots) (μ:aa)|rt (x:SV) (μ:aa)|bk (e:Slots) (μ:aa)|ct (e:Slots) (μ:aa)|err (c:T) (e:Slots) (μ:aa)|bad
abbrev DS:=Slots->aa->RS
noncomputable def R.toS {α : Type} (x : R α) (e : Slots) (f : α -> aa -> RS) : RS := match x with
 | .ok a μ=>f a μ
 | .err c μ=>.err c e μ
 | .bad=>.bad
@[simp] theorem R.toS_ok{α:Type}(a:α)(e:Slots)(μ:aa)(f:α->aa->RS):(R.ok a μ).toS e f=f a μ:=(rfl)
@[simp] theorem R.toS_err{α:Type}(c:T)(e:Slots)(μ:aa)(f:α->aa->RS):(R.err c μ:R α).toS e f=.err c e μ:=(rfl)
noncomputable def RS.seq (r : RS) (f : Slots -> aa -> RS) : RS := match r with
 | .nx e μ=>f e μ
 | r=>r
@[simp] theorem RS.aM(e:Slots)(μ:aa)(f:Slots->aa->RS):(RS.nx e μ).seq f=f e μ:=(rfl)
@[simp] theorem RS.mT(x:SV)(μ:aa)(f:Slots->aa->RS):(RS.rt x μ).seq f=.rt x μ:=(rfl)
def a6:DS:=λe μ=>.nx e μ
def aq(a b:DS):DS:=λe μ=>(a e μ).seq b
def LA(d:D):DS:=λe μ=>(d e μ).toS e λ_ μ1=>.nx e μ1
def az(i:Nat)(d:D):DS:=λe μ=>(d e μ).toS e λx μ1=>.nx (e.set i (some x)) μ1
def aK(d:D):DS:=λe μ=>(d e μ).toS e λx μ1=>.rt x μ1
def sIf(c:D)(a b:DS):DS:=λe μ=>(c e μ).toS e λx μ1=>(R.lift (asB x) μ1).toS e λk μ1=>if k=true then a e μ1 else b e μ1
def yC:DS:=λ_ _=>.bad
@[simp] theorem FI(e:Slots)(μ:aa):a6 e μ=.nx e μ:=(rfl)
@[simp] theorem kf(a b:DS)(e:Slots)(μ:aa):aq a b e μ=(a e μ).seq b:=(rfl)
@[simp] theorem BG(d:D)(e:Slots)(μ:aa):LA d e μ=(d e μ).toS e λ_ μ1=>.nx e μ1:=(rfl)
@[simp] theorem FJ(i:Nat)(d:D)(e:Slots)(μ:aa):az i d e μ=(d e μ).toS e λx μ1=>.nx (e.set i (some x)) μ1:=(rfl)
@[simp] theorem FK(d:D)(e:Slots)(μ:aa):aK d e μ=(d e μ).toS e λx μ1=>.rt x μ1:=(rfl)
@[simp] theorem Jl(c:D)(a b:DS)(e:Slots)(μ:aa):sIf c a b e μ=(c e μ).toS e λx μ1=>(R.lift (asB x) μ1).toS e λk μ1=>if k=true then a e μ1 else b e μ1:=(rfl)
def appendAt(x:SV)(t:T)(μ:aa):Option aa:=match x with
 | .cel k=>match μ[k]? with
  | some (true,.lst ts)=>if ts.length<szL then some (μ.set k (true,.lst (ts++[t]))) else none
  | _=>none
 | _=>none
noncomputable def oP (x : SV) (μ : aa) : Option Unit := match x with
 | .cel k=>match μ[k]? with
  | some (_,.lst _)=>some ()
  | _=>none
 | _=>none
theorem qq{μ:aa}{k:Nat}{b:Bool}{ts:List T}(h:μ[k]?=some (b,.lst ts)):oP (.cel k) μ=some ():=by unfold oP;simp only[h]
def cX(o d:D):DS:=λe μ=>(o e μ).toS e λx μ0=>(R.lift (oP x μ0) μ0).toS e λ_ μ0=>(d e μ0).toS e λy μ1=>(frz y μ1).toS e λt μ2=>(R.lift (appendAt x t μ2) μ2).toS e λμ3 _=>.nx e μ3
@[simp] theorem u0(o d:D)(e:Slots)(μ:aa):cX o d e μ=(o e μ).toS e λx μ0=>(R.lift (oP x μ0) μ0).toS e λ_ μ0=>(d e μ0).toS e λy μ1=>(frz y μ1).toS e λt μ2=>(R.lift (appendAt x t μ2) μ2).toS e λμ3 _=>.nx e μ3:=(rfl)
def setAt(x:SV)(k:T)(t:T)(μ:aa):Option aa:=match x,k with
 | .cel c,.int i=>match μ[c]? with
  | some (true,.lst ts)=>(ixN ts.length i).map λj=>μ.set c (true,.lst (ts.set j t))
  | _=>none
 | _,_=>none
def gh(i:Nat)(dk dv:D):DS:=λe μ=>(dv e μ).toS e λy μ1=>(R.lift (slot e i) μ1).toS e λx μ1=>(dk e μ1).toS e λz μ2=>(R.lift (rd μ2 z) μ2).toS e λk μ2 =>
 (frz y μ2).toS e λt μ3=>(R.lift (setAt x k t μ3) μ3).toS e λμ4 _=>.nx e μ4
@[simp] theorem sJ(i:Nat)(dk dv:D)(e:Slots)(μ:aa):gh i dk dv e μ=(dv e μ).toS e λy μ1=>(R.lift (slot e i) μ1).toS e λx μ1=>(dk e μ1).toS e λz μ2=>(R.lift (rd μ2 z) μ2).toS e λk μ2 =>
 (frz y μ2).toS e λt μ3=>(R.lift (setAt x k t μ3) μ3).toS e λμ4 _=>.nx e μ4:=(rfl)
structure Wk where
 items:List T
 same:aa->Prop
abbrev DI:=Slots->aa->R Wk
noncomputable def cE : T -> Option (List T)
 | .lst ts=>some ts
 | .tup ts=>some ts
 | _=>none
@[simp] theorem qr(ts:List T):cE (.lst ts)=some ts:=(rfl)
@[simp] theorem qt(ts:List T):cE (.tup ts)=some ts:=(rfl)
def fB(d:D):DI:=λe μ=>(d e μ).bind λx μ1=>(R.lift ((rd μ1 x).bind cE) μ1).bind λts μ1=>.ok ⟨ts,λμ'=>rd μ' x=rd μ1 x⟩ μ1
@[simp] theorem FL(d:D)(e:Slots)(μ:aa):fB d e μ=(d e μ).bind λx μ1=>(R.lift ((rd μ1 x).bind cE) μ1).bind λts μ1=>.ok ⟨ts,λμ'=>rd μ' x=rd μ1 x⟩ μ1:=(rfl)
noncomputable def cj (lo : Int) : Nat -> List T
 | 0=>[]
 | n+1=>.int lo::cj (lo+1) n
def dw(j:Int):Bool:=decide (-(2 ^ 62)≤j) && decide (j<2 ^ 62)
@[simp] theorem gi{j:Int}(h0:0≤j)(h1:j≤1000000):dw j=true:=by
 unfold dw
 rw[decide_eq_true (by lia),decide_eq_true (by lia)];rfl
theorem gj{j:Int}(h:dw j=true):-(2 ^ 62)≤j/\j<2 ^ 62:=by
 unfold dw at h
 simp only[Bool.and_eq_true,decide_eq_true_eq] at h
 exact h
def cY(d:D):DI:=λe μ=>(d e μ).bind λx μ1=>(R.lift ((rd μ1 x).bind dN) μ1).bind λj μ1=>if dw j=true then .ok ⟨cj 0 j.toNat,λ_=>True⟩ μ1 else .bad
def mj(d d':D):DI:=λe μ=>(d e μ).bind λx μ1=>(d' e μ1).bind λy μ2=>(R.lift ((rd μ2 x).bind dN) μ2).bind λi μ2=>(R.lift ((rd μ2 y).bind dN) μ2).bind λj μ2 =>
 if (dw i && dw j)=true then .ok ⟨cj i (j-i).toNat,λ_=>True⟩ μ2 else .bad
@[simp] theorem u3(d:D)(e:Slots)(μ:aa):cY d e μ=(d e μ).bind λx μ1=>(R.lift ((rd μ1 x).bind dN) μ1).bind λj μ1=>if dw j=true then .ok ⟨cj 0 j.toNat,λ_=>True⟩ μ1 else .bad:=(rfl)
@[simp] theorem u4(d d':D)(e:Slots)(μ:aa):mj d d' e μ=(d e μ).bind λx μ1=>(d' e μ1).bind λy μ2=>(R.lift ((rd μ2 x).bind dN) μ2).bind λi μ2=>(R.lift ((rd μ2 y).bind dN) μ2).bind λj μ2 =>
 if (dw i && dw j)=true then .ok ⟨cj i (j-i).toNat,λ_=>True⟩ μ2 else .bad:=(rfl)
noncomputable def Jm : List T -> List T -> List T
 | t::ts,u::us=>.tup [t,u]::Jm ts us
 | _,_=>[]
def Nh(d d':D):DI:=λe μ=>(d e μ).bind λx μ1=>(d' e μ1).bind λy μ2=>(R.lift ((rd μ2 x).bind cE) μ2).bind λts μ2=>(R.lift ((rd μ2 y).bind cE) μ2).bind λus μ2 =>
 .ok ⟨Jm ts us,λμ'=>rd μ' x=rd μ2 x/\rd μ' y=rd μ2 y⟩ μ2
@[simp] theorem FO(d d':D)(e:Slots)(μ:aa):Nh d d' e μ=(d e μ).bind λx μ1=>(d' e μ1).bind λy μ2=>(R.lift ((rd μ2 x).bind cE) μ2).bind λts μ2=>(R.lift ((rd μ2 y).bind cE) μ2).bind λus μ2 =>
 .ok ⟨Jm ts us,λμ'=>rd μ' x=rd μ2 x/\rd μ' y=rd μ2 y⟩ μ2:=(rfl)
abbrev BD:=T->Slots->Option Slots
def aS(i:Nat):BD:=λt e=>some (e.set i (some (.val t)))
def u5(is:List Nat):BD:=λt e=>match t with
 | .tup ts=>if ts.length=is.length then some ((is.zip ts).foldl (λe p=>e.set p.1 (some (.val p.2))) e) else none
 | _=>none
@[simp] theorem eg(i:Nat)(t:T)(e:Slots):aS i t e=some (e.set i (some (.val t))):=(rfl)
@[simp] theorem yD(i j:Nat)(t u:T)(e:Slots):u5 [i,j] (.tup [t,u]) e=some ((e.set i (some (.val t))).set j (some (.val u))):=(rfl)
open Classical in
noncomputable def forL (same : aa -> Prop) (b : BD) (body : DS) : List T -> Slots -> aa -> RS
 | [],e,μ=>if same μ then .nx e μ else .bad
 | t::ts,e,μ=>if same μ then
   match b t e with
   | none=>.bad
   | some e1=>match body e1 μ with
    | .nx e2 μ2=>forL same b body ts e2 μ2
    | .ct e2 μ2=>forL same b body ts e2 μ2
    | .bk e2 μ2=>.nx e2 μ2
    | r=>r
  else .bad
def fg(it:DI)(b:BD)(body:DS):DS:=λe μ=>(it e μ).toS e λW μ1=>forL W.same b body W.items e μ1
@[simp] theorem FP(it:DI)(b:BD)(body:DS)(e:Slots)(μ:aa):fg it b body e μ=(it e μ).toS e λW μ1=>forL W.same b body W.items e μ1:=(rfl)
def ba(c:D)(body:DS):Nat->Slots->aa->RS
 | 0,_,_=>.bad
 | n+1,e,μ=>(c e μ).toS e λx μ1=>(R.lift (asB x) μ1).toS e λk μ1=>if k=true then
   match body e μ1 with
   | .nx e2 μ2=>ba c body n e2 μ2
   | .ct e2 μ2=>ba c body n e2 μ2
   | .bk e2 μ2=>.nx e2 μ2
   | r=>r
  else .nx e μ1
open Classical in
def eG(c:D)(body:DS):DS:=λe μ=>if h:∃n,ba c body n e μ≠.bad then ba c body h.choose e μ else .bad
open Classical in
noncomputable def dy (same : aa -> Prop) (b : BD) (c : D) (d : D) (e : Slots) : List T -> aa -> R (List T)
 | [],μ=>if same μ then .ok [] μ else .bad
 | t::ts,μ=>if same μ then
   match b t e with
   | none=>.bad
   | some e1=>(c e1 μ).calm.bind λx μ1=>(R.lift (asB x) μ1).bind λk μ1 =>
    if k=true then (d e1 μ1).calm.bind λy μ2=>(frz y μ2).bind λu μ3=>(dy same b c d e ts μ3).bind λus μ4=>.ok (u::us) μ4
    else dy same b c d e ts μ1
  else .bad
def ini(mp:List (Option Nat))(e:Slots):Slots:=mp.map λo=>o.bind λj=>slot e j
def dj(it:DI)(mp:List (Option Nat))(b:BD)(c:D)(d:D):D:=λe μ=>(it e μ).bind λW μ1=>(dy W.same b c d (ini mp e) W.items μ1).calm.bind λus μ2 =>
 if W.items.length≤szL then .ok (.val (.lst us)) μ2 else .bad
@[simp] theorem BH(it:DI)(mp:List (Option Nat))(b:BD)(c:D)(d:D)(e:Slots)(μ:aa):dj it mp b c d e μ=(it e μ).bind λW μ1=>(dy W.same b c d (ini mp e) W.items μ1).calm.bind λus μ2 =>
 if W.items.length≤szL then .ok (.val (.lst us)) μ2 else .bad:=(rfl)
@[simp] theorem FQ(e:Slots):ini [] e=[]:=(rfl)
@[simp] theorem BI(mp:List (Option Nat))(e:Slots):ini (none::mp) e=none::ini mp e:=(rfl)
@[simp] theorem BJ(j:Nat)(mp:List (Option Nat))(e:Slots):ini (some j::mp) e=slot e j::ini mp e:=(rfl)
def gc(n:Nat)(x:SV)(μ:aa):R SV:=match x with
 | .val t=>.ok (.val t) (μ.take n)
 | .cel k=>if k<n then .ok (.cel k) (μ.take n) else match μ[k]? with
  | some c=>.ok (.cel n) (μ.take n++[c])
  | none=>.bad
 | .box _=>.bad
noncomputable def starts (m : Nat) (xs : List SV) : Slots := xs.map some ++ List.replicate (m - xs.length) none
def RS.Jn(n:Nat):RS->R SV
 | .rt x μ'=>gc n x μ'
 | .nx _ μ'=>gc n (.val .non) μ'
 | .err c _ μ'=>.err c (μ'.take n)
 | _=>.bad
def fnD(m:Nat)(body:DS):FN:=λxs μ=>(body (starts m xs) μ).Jn μ.length
def ice(n:Nat)(x:SV)(μ:aa):R SV:=(frz x μ).bind λt μ1=>.ok (.val t) (μ1.take n)
def RS.oQ(n:Nat):RS->R SV
 | .rt x μ'=>ice n x μ'
 | .nx _ μ'=>ice n (.val .non) μ'
 | .err c _ μ'=>.err c (μ'.take n)
 | _=>.bad
def fnV(m:Nat)(body:DS):FN:=λxs μ=>(body (starts m xs) μ).oQ μ.length
def RS.Jo:RS->R SV
 | .rt x μ'=>.ok x μ'
 | .nx _ μ'=>.ok (.val .non) μ'
 | .err c _ μ'=>.err c μ'
 | _=>.bad
def fnK(m:Nat)(body:DS):FN:=λxs μ=>(body (starts m xs) μ).Jo
@[simp] theorem eQ(n:Nat)(x:SV)(μ:aa):(RS.rt x μ).oQ n=ice n x μ:=(rfl)
@[simp] theorem FR(n:Nat)(x:SV)(μ:aa):(RS.rt x μ).Jn n=gc n x μ:=(rfl)
@[simp] theorem FT(x:SV)(μ:aa):(RS.rt x μ).Jo=.ok x μ:=(rfl)
@[simp] theorem gB(m:Nat)(body:DS)(xs:List SV)(μ:aa):fnV m body xs μ=(body (starts m xs) μ).oQ μ.length:=(rfl)
@[simp] theorem jG(m:Nat)(body:DS)(xs:List SV)(μ:aa):fnD m body xs μ=(body (starts m xs) μ).Jn μ.length:=(rfl)
@[simp] theorem jH(m:Nat)(body:DS)(xs:List SV)(μ:aa):fnK m body xs μ=(body (starts m xs) μ).Jo:=(rfl)
end Fw
namespace Fw
open PySem L2
def ExcAt(K:PySem.W.Frag)(a:Addr)(c:Str)(t:Option Str)(h:Heap):Prop:=∃C,PySem.W.nsIn K mainGlobals c=some (some (.ref C))/\fW a C h
def kvT(kts:List (List Int×Bool)):List (List Key×V):=kts.map λp=>(p.1.map Sum.inl,V.bl p.2)
section
variable(K:PySem.W.Frag)(F:Hp)
mutual
def Rep:T->V->Prop
 | .non,v=>v=.non
 | .bl b,v=>v=.bl b
 | .int i,v=>v=.int i
 | .str x,v=>v=.str x
 | .lst ts,v=>∃a vs,v=.ref a/\SqL K F a vs/\aD ts vs
 | .tup ts,v=>∃a vs,v=.ref a/\SqT K F a vs/\aD ts vs
 | .dct kts,v=>∃a kvs,v=.ref a/\F a=some (.dK kvs)/\dQ kts kvs
 | .exc c t,v=>∃a,v=.ref a/\F a=some (.ext (ExcAt K a c t))
 | .dtt fz kts,v=>∃a,v=.ref a/\((fz=false/\F a=some (.dT (kvT kts)))∨(fz=true/\∃o,F a=some (.frz o (.dT (kvT kts)))))
def aD:List T->List V->Prop
 | [],vs=>vs=[]
 | t::ts,vs=>∃v vs',vs=v::vs'/\Rep t v/\aD ts vs'
def dQ:List (Key×T)->List (Key×V)->Prop
 | [],kvs=>kvs=[]
 | (k,t)::kts,kvs=>∃v Jp,kvs=(k,v)::Jp/\Rep t v/\dQ kts Jp
end
end
theorem aN.jh{K:PySem.W.Frag}{H H':Hp}{a:Addr}{xs:List V}(e:aN H H')(h:SqT K H a xs):SqT K H' a xs:=e _ _ h
section
variable{K:PySem.W.Frag}{F F' H H':Hp}
mutual
theorem Rep.mono(s:aN F F'):∀(t:T) (v:V),Rep K F t v->Rep K F' t v
 | .non,v,h=>by rw[Rep] at h ⊢;exact h
 | .bl b,v,h=>by rw[Rep] at h ⊢;exact h
 | .int i,v,h=>by rw[Rep] at h ⊢;exact h
 | .str x,v,h=>by rw[Rep] at h ⊢;exact h
 | .lst ts,v,h=>by
  rw[Rep] at h ⊢
  obtain⟨a,vs,e,q,r⟩:=h
  exact⟨a,vs,e,s.seq q,aD.mono s ts vs r⟩
 | .tup ts,v,h=>by
  rw[Rep] at h ⊢
  obtain⟨a,vs,e,q,r⟩:=h
  exact⟨a,vs,e,aN.jh s q,aD.mono s ts vs r⟩
 | .dct kts,v,h=>by
  rw[Rep] at h ⊢
  obtain⟨a,vs,e,q,r⟩:=h
  exact⟨a,vs,e,s _ _ q,dQ.mono s kts vs r⟩
 | .exc c t,v,h=>by
  rw[Rep] at h ⊢
  obtain⟨a,e,q⟩:=h
  exact⟨a,e,s _ _ q⟩
 | .dtt fz kts,v,h=>by
  rw[Rep] at h ⊢
  obtain⟨a,e,q⟩:=h
  exact⟨a,e,q.elim (λz=>.inl ⟨z.1,s _ _ z.2⟩) λ⟨z,o,y⟩=>.inr ⟨z,o,s _ _ y⟩⟩
theorem aD.mono(s:aN F F'):∀(ts:List T) (vs:List V),aD K F ts vs->aD K F' ts vs
 | [],vs,h=>by rw[aD] at h ⊢;exact h
 | t::ts,vs,h=>by
  rw[aD] at h ⊢
  obtain⟨v,vs',e,q,r⟩:=h
  exact⟨v,vs',e,Rep.mono s t v q,aD.mono s ts vs' r⟩
theorem dQ.mono(s:aN F F'):∀(kts:List (Key×T)) (kvs:List (Key×V)),dQ K F kts kvs->dQ K F' kts kvs
 | [],vs,h=>by rw[dQ] at h ⊢;exact h
 | (k,t)::ts,vs,h=>by
  rw[dQ] at h ⊢
  obtain⟨v,vs',e,q,r⟩:=h
  exact⟨v,vs',e,Rep.mono s t v q,dQ.mono s ts vs' r⟩
end
theorem Rep.BK{i:Int}{v:V}(h:Rep K F (.int i) v):v=.int i:=by rw[Rep] at h;exact h
theorem Rep.mU{i:Bool}{v:V}(h:Rep K F (.bl i) v):v=.bl i:=by rw[Rep] at h;exact h
theorem Rep.eH{i:Str}{v:V}(h:Rep K F (.str i) v):v=.str i:=by rw[Rep] at h;exact h
theorem Rep.lh{v:V}(h:Rep K F .non v):v=.non:=by rw[Rep] at h;exact h
theorem Rep.ij(i:Int):Rep K F (.int i) (.int i):=by rw[Rep]
theorem Rep.bl'(i:Bool):Rep K F (.bl i) (.bl i):=by rw[Rep]
theorem Rep.u6(i:Str):Rep K F (.str i) (.str i):=by rw[Rep]
theorem Rep.FU:Rep K F .non .non:=by rw[Rep]
theorem aD.length:∀{ts:List T}{vs:List V},aD K F ts vs->ts.length=vs.length
 | [],vs,h=>by rw[aD] at h;subst h;rfl
 | t::ts,vs,h=>by
  rw[aD] at h
  obtain⟨v,vs',rfl,_,r⟩:=h
  rw[List.length_cons,List.length_cons,aD.length r]
theorem aD.get:∀{ts:List T}{vs:List V}{i:Nat}{t:T},aD K F ts vs->ts[i]?=some t->∃v,vs[i]?=some v/\Rep K F t v
 | [],_,_,_,_,e=>by simp at e
 | t::ts,vs,0,t',h,e=>by
  rw[aD] at h
  obtain⟨v,vs',rfl,q,_⟩:=h
  simp at e;subst e
  exact⟨v,rfl,q⟩
 | t::ts,vs,i+1,t',h,e=>by
  rw[aD] at h
  obtain⟨v,vs',rfl,q,r⟩:=h
  obtain⟨v',h1,h2⟩:=aD.get (i:=i) r (by simpa using e)
  exact⟨v',by simpa using h1,h2⟩
theorem aD.append:∀{ts us:List T}{vs ws:List V},aD K F ts vs->aD K F us ws->aD K F (ts++us) (vs++ws)
 | [],us,vs,ws,h,g=>by rw[aD] at h;subst h;exact g
 | t::ts,us,vs,ws,h,g=>by
  rw[aD] at h
  obtain⟨v,vs',rfl,q,r⟩:=h
  rw[List.cons_append,List.cons_append,aD]
  exact⟨v,vs'++ws,rfl,q,r.append g⟩
theorem aD.sL:aD K F [] []:=by rw[aD]
theorem aD.pA{t:T}{v:V}{ts:List T}{vs:List V}(q:Rep K F t v)(r:aD K F ts vs):aD K F (t::ts) (v::vs):=by rw[aD];exact⟨v,vs,rfl,q,r⟩
theorem aD.one{t:T}{v:V}(q:Rep K F t v):aD K F [t] [v]:=.pA q .sL
theorem aD.drop:∀{ts:List T}{vs:List V} (n:Nat),aD K F ts vs->aD K F (ts.drop n) (vs.drop n)
 | _,_,0,h=>by simpa using h
 | [],vs,n+1,h=>by rw[aD] at h;subst h;simpa using aD.sL
 | t::ts,vs,n+1,h=>by
  rw[aD] at h
  obtain⟨v,vs',rfl,q,r⟩:=h
  exact r.drop n
theorem aD.set:∀{ts:List T}{vs:List V} (i:Nat) {t:T}{v:V},aD K F ts vs->Rep K F t v->aD K F (ts.set i t) (vs.set i v)
 | [],vs,i,_,_,h,_=>by rw[aD] at h;subst h;simpa using aD.sL
 | t::ts,vs,0,t',v',h,g=>by
  rw[aD] at h
  obtain⟨v,vs',rfl,q,r⟩:=h
  exact .pA g r
 | t::ts,vs,i+1,t',v',h,g=>by
  rw[aD] at h
  obtain⟨v,vs',rfl,q,r⟩:=h
  exact .pA q (r.set i g)
theorem aD.flat{ts:List T}{vs:List V}(h:aD K F ts vs):∀k:Nat,aD K F (List.replicate k ts).flatten (List.replicate k vs).flatten
 | 0=>by simpa using aD.sL
 | k+1=>by
  rw[List.replicate_succ,List.replicate_succ,List.flatten_cons,List.flatten_cons]
  exact h.append (h.flat k)
theorem aD.wX:∀(ns:List Int),aD K F (ns.map T.int) (ns.map V.int)
 | []=>.sL
 | n::ns=>.pA (Rep.ij n) (aD.wX ns)
def Now(K:PySem.W.Frag)(F H:Hp)(v:V):T->Prop
 | .lst ts=>∃a vs,v=.ref a/\SqL K H a vs/\aD K F ts vs
 | .tup ts=>∃a vs,v=.ref a/\SqT K F a vs/\aD K F ts vs
 | .dct kts=>∃a kvs,v=.ref a/\H a=some (.dK kvs)/\dQ K F kts kvs
 | .dtt fz kts=>∃a,v=.ref a/\Rd H a (.dT (kvT kts))
 | t=>Rep K F t v
theorem Now.BL(s:aN F H){t:T}{v:V}(h:Rep K F t v):Now K F H v t:=by
 cases t with
 | lst ts=>rw[Rep] at h;obtain⟨a,vs,e,q,r⟩:=h;exact⟨a,vs,e,s.seq q,r⟩
 | tup ts=>rw[Rep] at h;obtain⟨a,vs,e,q,r⟩:=h;exact⟨a,vs,e,q,r⟩
 | dct ts=>rw[Rep] at h;obtain⟨a,vs,e,q,r⟩:=h;exact⟨a,vs,e,s _ _ q,r⟩
 | dtt fz ts=>rw[Rep] at h;obtain⟨a,e,q⟩:=h;exact⟨a,e,q.elim (λz=>.inl (s _ _ z.2)) λ⟨_,o,y⟩=>.inr ⟨o,s _ _ y⟩⟩
 | _=>exact h
theorem Now.int{i:Int}{v:V}(h:Now K F H v (.int i)):v=.int i:=Rep.BK (K:=K) (F:=F) h
theorem Now.bl{i:Bool}{v:V}(h:Now K F H v (.bl i)):v=.bl i:=Rep.mU (K:=K) (F:=F) h
theorem Now.str{i:Str}{v:V}(h:Now K F H v (.str i)):v=.str i:=Rep.eH (K:=K) (F:=F) h
end
def u7(K:PySem.W.Frag)(F:Hp)(α:List Addr)(v:V):Sum T Nat->Prop
 | .inl t=>Rep K F t v
 | .inr k=>∃a,α[k]?=some a/\v=.ref a
def cU(K:PySem.W.Frag)(F:Hp)(α:List Addr)(v:V):SV->Prop
 | .val t=>Rep K F t v
 | .cel k=>∃a,α[k]?=some a/\v=.ref a
 | .box xs=>∃a vs,v=.ref a/\SqT K F a vs/\Paired (u7 K F α) vs xs
def fi(K:PySem.W.Frag)(F H:Hp)(a:Addr):T->Prop
 | .lst ts=>∃vs,H a=some (.lst vs)/\aD K F ts vs
 | .dct kts=>∃kvs,H a=some (.dK kvs)/\dQ K F kts kvs
 | .dtt fz kts=>fz=false/\H a=some (.dT (kvT kts))
 | _=>False
def Tps(F H:Hp):Prop:=∀b xs,H b=some (.tup xs)->F b=some (.tup xs)
def NT(o:HO):Prop:=∀xs,o≠.tup xs
theorem Tps.upd{F H:Hp}{p:Addr}{o:HO}(h:Tps F H)(n:NT o):Tps F (upd H p o):=λb xs q=>by
 by_cases e:b=p
 ·subst e;rw[aH] at q;cases q;exact absurd rfl (n _)
 ·rw[aI e] at q;exact h _ _ q
theorem Tps.mono{F F' H:Hp}(h:Tps F H)(s:aN F F'):Tps F' H:=λb xs q=>s _ _ (h b xs q)
theorem fi.nt{K:PySem.W.Frag}{F H:Hp}{a:Addr}{t:T}{o:HO}(c:fi K F (upd H a o) a t):NT o:=λxs e=>by
 subst e
 cases t with
 | lst ts=>obtain⟨vs,h1,_⟩:=c;rw[aH] at h1;cases h1
 | dct ts=>obtain⟨vs,h1,_⟩:=c;rw[aH] at h1;cases h1
 | dtt fz ts=>have h1:=c.2;rw[aH] at h1;cases h1
 | _=>exact c.elim
structure bG(K:PySem.W.Frag)(F:Hp)(α:List Addr)(μ:aa)(H:Hp):Prop where
 ext:aN F H
 len:α.length=μ.length
 nd:α.Nodup
 there:∀(k:Nat) (a:Addr),α[k]?=some a->∃o,H a=some o
 cell:∀(k:Nat) (b:Bool) (t:T) (a:Addr),μ[k]?=some (b,t)->α[k]?=some a->(b=true->F a=none/\fi K F H a t)/\(b=false->Rep K F t (.ref a))
 tps:Tps F H
structure Sim(K:PySem.W.Frag)(F:Hp)(α:List Addr)(e:Slots)(μ:aa)(σ:St)(H:Hp):Prop where
 st:bG K F α μ H
 sl:∀i x,slot e i=some x->∃v,σ[i]?=some (some v)/\cU K F α v x
 len:e.length=σ.length
section
variable{K:PySem.W.Frag}{F F' F2 H H':Hp}{α α':List Addr}{e:Slots}{μ:aa}{σ:St}{v:V}{x:SV}{t:T}
theorem i3{k:Nat}{a:Addr}(p:α <+: α')(h:α[k]?=some a):α'[k]?=some a:=by
 obtain⟨l,rfl⟩:=p
 have hk:k<α.length:=(List.getElem?_eq_some_iff.mp h).1
 rw[List.getElem?_append_left hk];exact h
theorem u7.mono{y:Sum T Nat}(s:aN F F')(p:α <+: α')(h:u7 K F α v y):u7 K F' α' v y:=by
 cases y with
 | inl t=>exact Rep.mono s t v h
 | inr k=>obtain⟨a,h1,h2⟩:=h;exact⟨a,i3 p h1,h2⟩
theorem cU.mono(s:aN F F')(p:α <+: α')(h:cU K F α v x):cU K F' α' v x:=by
 cases x with
 | val t=>exact Rep.mono s t v h
 | cel k=>obtain⟨a,h1,h2⟩:=h;exact⟨a,i3 p h1,h2⟩
 | box xs=>obtain⟨a,vs,e,q,r⟩:=h;exact⟨a,vs,e,aN.jh s q,Paired.imp' (λ_ _ z=>u7.mono s p z) r⟩
theorem a5(S:bG K F α μ H)(h:cU K F α v x)(r:rd μ x=some t):Now K F H v t:=by
 cases x with
 | val u=>cases r;exact Now.BL S.ext h
 | cel k =>
  obtain⟨a,h1,rfl⟩:=h
  cases q:μ[k]? with
  | none=>simp[rd,q] at r
  | some c =>
   obtain⟨b,u⟩:=c
   simp only[rd,q,Option.map_some] at r
   cases r
   obtain⟨c1,c2⟩:=S.cell k b t a q h1
   cases b with
   | false=>exact Now.BL S.ext (c2 rfl)
   | true =>
    obtain⟨_,c⟩:=c1 rfl
    cases t with
    | lst ts=>obtain⟨vs,g1,g2⟩:=c;exact⟨a,vs,rfl,SqL.of g1,g2⟩
    | dct ts=>obtain⟨vs,g1,g2⟩:=c;exact⟨a,vs,rfl,g1,g2⟩
    | dtt fz ts=>exact⟨a,rfl,.inl c.2⟩
    | _=>exact c.elim
 | box xs=>cases r
def a_(F H F' H':Hp):Prop:=∀b,(F' b=F b/\H' b=H b)∨(H b=none/\F' b=H' b)
theorem a_.refl:a_ F H F H:=λ_=>.inl ⟨rfl,rfl⟩
theorem a_.new{p:Addr}{o:HO}(h:H p=none):a_ F H (upd F p o) (upd H p o):=λb=>by
 by_cases e:b=p
 ·subst e;exact .inr ⟨h,by rw[aH,aH]⟩
 ·exact .inl ⟨aI e,aI e⟩
theorem a_.same(g:a_ F H F' H')(s:aN F H):aN F F':=λb o h=>by
 rcases g b with ⟨e1,e2⟩|⟨e1,e2⟩
 ·rw[e1];exact h
 ·rw[s b o h] at e1;cases e1
theorem a_.ext(g:a_ F H F' H')(s:aN F H):aN F' H':=λb o h=>by
 rcases g b with ⟨e1,e2⟩|⟨e1,e2⟩
 ·rw[e2];rw[e1] at h;exact s b o h
 ·rw[← e2];exact h
theorem fi.grow(g:a_ F H F' H')(s:aN F H){a:Addr}(h:fi K F H a t):fi K F' H' a t:=by
 have keep:∀{o:HO},H a=some o->H' a=some o:=λ{o} h=>by
  rcases g a with ⟨e1,e2⟩|⟨e1,e2⟩
  ·rw[e2];exact h
  ·rw[h] at e1;cases e1
 cases t with
 | lst ts=>obtain⟨vs,h1,h2⟩:=h;exact⟨vs,keep h1,aD.mono (g.same s) _ _ h2⟩
 | dct ts=>obtain⟨vs,h1,h2⟩:=h;exact⟨vs,keep h1,dQ.mono (g.same s) _ _ h2⟩
 | dtt fz ts=>exact⟨h.1,keep h.2⟩
 | _=>exact h.elim
theorem fi.there{a:Addr}(h:fi K F H a t):∃o,H a=some o:=by
 cases t with
 | lst ts=>obtain⟨vs,h1,h2⟩:=h;exact⟨_,h1⟩
 | dct ts=>obtain⟨vs,h1,h2⟩:=h;exact⟨_,h1⟩
 | dtt fz ts=>exact⟨_,h.2⟩
 | _=>exact h.elim
theorem bG.grow(S:bG K F α μ H)(g:a_ F H F' H'):bG K F' α μ H' where
 ext:=g.ext S.ext
 len:=S.len
 nd:=S.nd
 there:=λk a h=>by
  obtain⟨o,ho⟩:=S.there k a h
  rcases g a with ⟨e1,e2⟩|⟨e1,e2⟩
  ·exact⟨o,by rw[e2];exact ho⟩
  ·rw[ho] at e1;cases e1
 cell:=λk b t a h1 h2=>by
  obtain⟨c1,c2⟩:=S.cell k b t a h1 h2
  refine⟨λhb=>?_,λhb=>Rep.mono (g.same S.ext) _ _ (c2 hb)⟩
  obtain⟨d1,d2⟩:=c1 hb
  refine⟨?_,d2.grow g S.ext⟩
  obtain⟨o,ho⟩:=d2.there
  rcases g a with ⟨e1,e2⟩|⟨e1,e2⟩
  ·rw[e1];exact d1
  ·rw[ho] at e1;cases e1
 tps:=λb xs q=>by
  rcases g b with ⟨e1,e2⟩|⟨e1,e2⟩
  ·rw[e1];rw[e2] at q;exact S.tps _ _ q
  ·rw[e2];exact q
theorem Sim.grow(S:Sim K F α e μ σ H)(g:a_ F H F' H'):Sim K F' α e μ σ H' where
 st:=S.st.grow g
 sl:=λi x h=>by
  obtain⟨v,h1,h2⟩:=S.sl i x h
  exact⟨v,h1,h2.mono (g.same S.st.ext) (List.prefix_refl _)⟩
 len:=S.len
theorem Sim.of(S:Sim K F α e μ σ H){μ':aa}(s:aN F F')(p:α <+: α')(S':bG K F' α' μ' H'):Sim K F' α' e μ' σ H' :=
 ⟨S',λi x h=>by
  obtain⟨v,h1,h2⟩:=S.sl i x h
  exact⟨v,h1,h2.mono s p⟩,S.len⟩
theorem mV{k j:Nat}{a:Addr}(n:α.Nodup)(h1:α[k]?=some a)(h2:α[j]?=some a):k=j:=by
 obtain⟨a1,b1⟩:=List.getElem?_eq_some_iff.mp h1
 obtain⟨a2,b2⟩:=List.getElem?_eq_some_iff.mp h2
 exact(List.getElem_inj n).mp (b1.trans b2.symm)
theorem wY{k:Nat}(S:bG K F α μ H)(h:∃a,α[k]?=some a/\v=.ref a){μ':aa}(r:frz (.cel k) μ=.ok t μ'):∃F',aN F F'/\(∀b,b∉α->F' b=F b)/\bG K F' α μ' H/\Rep K F' t v:=by
  obtain⟨a,h1,rfl⟩:=h
  unfold frz at r
  cases q:μ[k]? with
  | none=>simp only[q] at r;cases r
  | some c =>
   obtain⟨b,u⟩:=c
   simp only[q] at r
   cases r
   have hk:k<μ.length:=(List.getElem?_eq_some_iff.mp q).1
   obtain⟨c1,c2⟩:=S.cell k b t a q h1
   have main:∃F',aN F F'/\aN F' H/\Rep K F' t (.ref a)/\∀c,c≠a->F' c=F c:=by
    cases b with
    | false=>exact⟨F,aN.refl F,S.ext,c2 rfl,λ_ _=>rfl⟩
    | true =>
     obtain⟨d1,d2⟩:=c1 rfl
     obtain⟨o,ho⟩:=d2.there
     have s1:aN F (upd F a o):=λc z hz=>by
      rw[aI (λq=>by subst q;rw[d1] at hz;cases hz)];exact hz
     refine⟨upd F a o,s1,λc z hz=>?_,?_,λc hc=>aI hc⟩
     ·by_cases e:c=a
      ·subst e;rw[aH] at hz;cases hz;exact ho
      ·rw[aI e] at hz;exact S.ext c z hz
     ·cases t with
      | lst ts=>obtain⟨vs,g1,g2⟩:=d2;rw[g1] at ho;cases ho;rw[Rep];exact⟨a,vs,rfl,SqL.of aH,aD.mono s1 _ _ g2⟩
      | dct ts=>obtain⟨vs,g1,g2⟩:=d2;rw[g1] at ho;cases ho;rw[Rep];exact⟨a,vs,rfl,aH,dQ.mono s1 _ _ g2⟩
      | dtt fz ts=>obtain⟨d4,d3⟩:=d2;rw[d3] at ho;cases ho;rw[Rep];exact⟨a,rfl,.inl ⟨d4,aH⟩⟩
      | _=>exact d2.elim
   obtain⟨F',s1,s2,rp,ne⟩:=main
   refine⟨F',s1,λc hc=>ne c λq=>hc (by rw[q];exact List.mem_of_getElem? h1),⟨s2,by rw[List.length_set];exact S.len,S.nd,S.there,λj b' u' a' g1 g2=>?_,S.tps.mono s1⟩,rp⟩
   by_cases e:j=k
   ·subst e
    rw[List.getElem?_set_self hk] at g1
    cases g1
    rw[h1] at g2;cases g2
    exact⟨λz=>(by cases z),λ_=>rp⟩
   ·rw[List.getElem?_set_ne (Ne.symm e)] at g1
    obtain⟨z1,z2⟩:=S.cell j b' u' a' g1 g2
    have na:a'≠a:=λq=>by subst q;exact e (mV S.nd g2 h1)
    refine⟨λhb=>?_,λhb=>Rep.mono s1 _ _ (z2 hb)⟩
    obtain⟨y1,y2⟩:=z1 hb
    refine⟨by rw[ne _ na];exact y1,?_⟩
    cases u' with
    | lst ts=>obtain⟨vs,w1,w2⟩:=y2;exact⟨vs,w1,aD.mono s1 _ _ w2⟩
    | dct ts=>obtain⟨vs,w1,w2⟩:=y2;exact⟨vs,w1,dQ.mono s1 _ _ w2⟩
    | dtt fz ts=>exact y2
    | _=>exact y2.elim
theorem FV(k:Nat)(μ:aa):yq (.inr k) μ=frz (.cel k) μ:=by unfold yq frz;rfl
theorem sM:∀{xs:List (Sum T Nat)}{vs:List V}{μ μ':aa}{F:Hp}{ts:List T},bG K F α μ H->Paired (u7 K F α) vs xs->j9 xs μ=.ok ts μ'->∃F',aN F F'/\(∀b,b∉α->F' b=F b)/\bG K F' α μ' H/\aD K F' ts vs
 | [],vs,μ,μ',F,ts,S,p,r=>by
  cases p
  cases r
  exact⟨F,aN.refl F,λ_ _=>rfl,S,aD.sL⟩
 | x::xs,vs,μ,μ',F,ts,S,p,r=>by
  cases p with
  | @cons v₁ _ vs₁ _ hv p =>
   unfold j9 at r
   obtain⟨t,μ1,r1,r⟩:=R.aJ r
   obtain⟨ts',μ2,r2,r⟩:=R.aJ r
   cases r
   have one:∃F',aN F F'/\(∀b,b∉α->F' b=F b)/\bG K F' α μ1 H/\Rep K F' t v₁:=by
    cases x with
    | inl u=>cases r1;exact⟨F,aN.refl F,λ_ _=>rfl,S,hv⟩
    | inr k=>rw[FV] at r1;exact wY S hv r1
   obtain⟨F1,s1,n1,S1,q1⟩:=one
   obtain⟨F2,s2,n2,S2,q2⟩:=sM S1 (Paired.imp' (λ_ _ z=>u7.mono s1 (List.prefix_refl _) z) p) r2
   exact⟨F2,s1.trans s2,λb hb=>(n2 b hb).trans (n1 b hb),S2,.pA (Rep.mono s2 _ _ q1) q2⟩
theorem mW(S:bG K F α μ H)(h:cU K F α v x){μ':aa}(r:frz x μ=.ok t μ'):∃F',aN F F'/\(∀b,b∉α->F' b=F b)/\bG K F' α μ' H/\Rep K F' t v:=by
 cases x with
 | val u=>cases r;exact⟨F,aN.refl F,λ_ _=>rfl,S,h⟩
 | cel k=>exact wY S h r
 | box xs =>
  obtain⟨a,vs,rfl,q,p⟩:=h
  unfold frz at r
  obtain⟨ts,μ1,r1,r⟩:=R.aJ r
  cases r
  obtain⟨F1,s1,n1,S1,q1⟩:=sM S p r1
  refine⟨F1,s1,n1,S1,?_⟩
  rw[Rep]
  exact⟨a,vs,rfl,aN.jh s1 q,q1⟩
theorem ml:∀{xs:List SV}{vs:List V}{μ μ':aa}{F:Hp}{ts:List T},bG K F α μ H->Paired (λv x=>cU K F α v x) vs xs->bS xs μ=.ok ts μ'->∃F',aN F F'/\(∀b,b∉α->F' b=F b)/\bG K F' α μ' H/\aD K F' ts vs
 | [],vs,μ,μ',F,ts,S,p,r=>by
  cases p
  cases r
  exact⟨F,aN.refl F,λ_ _=>rfl,S,aD.sL⟩
 | x::xs,vs,μ,μ',F,ts,S,p,r=>by
  cases p with
  | cons hv p =>
   rw[k7] at r
   obtain⟨t,μ1,r1,r⟩:=R.aJ r
   obtain⟨ts',μ2,r2,r⟩:=R.aJ r
   cases r
   obtain⟨F1,s1,n1,S1,q1⟩:=mW S hv r1
   obtain⟨F2,s2,n2,S2,q2⟩:=ml S1 (Paired.imp' (λ_ _ z=>cU.mono s1 (List.prefix_refl _) z) p) r2
   exact⟨F2,s1.trans s2,λb hb=>(n2 b hb).trans (n1 b hb),S2,.pA (Rep.mono s2 _ _ q1) q2⟩
theorem u9(S:bG K F α μ H){k:Nat}{a:Addr}{t₀:T}{o:HO}(hk:μ[k]?=some (true,t₀))(ha:α[k]?=some a)(c:fi K F (upd H a o) a t):bG K F α (μ.set k (true,t)) (upd H a o):=by
 have hlt:k<μ.length:=(List.getElem?_eq_some_iff.mp hk).1
 have hF:=((S.cell k true t₀ a hk ha).1 rfl).1
 refine⟨λb z hz=>?_,by rw[List.length_set];exact S.len,S.nd,λj b h=>?_,λj b u a' h1 h2=>?_,S.tps.upd c.nt⟩
 ·rw[aI (λq=>by subst q;rw[hF] at hz;cases hz)];exact S.ext b z hz
 ·by_cases e:b=a
  ·subst e;exact⟨o,aH⟩
  ·rw[aI e];exact S.there j b h
 ·by_cases e:j=k
  ·subst e
   rw[List.getElem?_set_self hlt] at h1
   cases h1
   rw[ha] at h2;cases h2
   exact⟨λ_=>⟨hF,c⟩,λz=>(by cases z)⟩
  ·rw[List.getElem?_set_ne (Ne.symm e)] at h1
   have na:a'≠a:=λq=>by subst q;exact e (mV S.nd h2 ha)
   obtain⟨c1,c2⟩:=S.cell j b u a' h1 h2
   refine⟨λhb=>⟨(c1 hb).1,?_⟩,c2⟩
   have d:=(c1 hb).2
   cases u with
   | lst ts=>obtain⟨vs,w1,w2⟩:=d;exact⟨vs,by rw[aI na];exact w1,w2⟩
   | dct ts=>obtain⟨vs,w1,w2⟩:=d;exact⟨vs,by rw[aI na];exact w1,w2⟩
   | dtt fz ts=>exact⟨d.1,(aI na).trans d.2⟩
   | _=>exact d.elim
theorem bG.take{β:List Addr}(S:bG K F β μ H)(n:Nat):bG K F (β.take n) (μ.take n) H:=by
 have cut:∀{γ:Type}{l:List γ}{k:Nat}{z:γ},(l.take n)[k]?=some z->l[k]?=some z:=λ{γ l k z} h=>by
  rw[List.getElem?_take] at h
  split at h
  ·exact h
  ·cases h
 exact⟨S.ext,by rw[List.length_take,List.length_take,S.len],S.nd.sublist (List.take_sublist _ _),λk a h=>S.there k a (cut h),λk b t a h1 h2=>S.cell k b t a (cut h1) (cut h2),S.tps⟩
theorem LB{μ₀:aa}{β:List Addr}{r:SV}{μ':aa}(hα:α.length=μ₀.length)(p:α <+: β)(S:bG K F β μ H)(h:cU K F β v x)(hg:gc μ₀.length x μ=.ok r μ') :
  ∃γ,α <+: γ/\(∀b,b∈γ->b∈β)/\bG K F γ μ' H/\cU K F γ v r:=by
 have hn:β.take μ₀.length=α:=by
  rw[← hα]
  obtain⟨l,rfl⟩:=p
  simp
 have hp:α <+: β.take μ₀.length:=by rw[hn];exact List.prefix_refl _
 unfold gc at hg
 cases x with
 | val t =>
  simp only at hg
  cases hg
  exact⟨β.take μ₀.length,hp,λb hb=>List.mem_of_mem_take hb,S.take _,h⟩
 | cel k =>
  obtain⟨a,ha,rfl⟩:=h
  simp only at hg
  by_cases hk:k<μ₀.length
  ·rw[if_pos hk] at hg
   cases hg
   exact⟨β.take μ₀.length,hp,λb hb=>List.mem_of_mem_take hb,S.take _,a,by rw[List.getElem?_take_of_lt hk];exact ha,rfl⟩
  ·rw[if_neg hk] at hg
   cases hc:μ[k]? with
   | none=>rw[hc] at hg;cases hg
   | some c =>
    rw[hc] at hg
    cases hg
    have T:=S.take μ₀.length
    have hl:(β.take μ₀.length).length=μ₀.length:=by rw[hn];exact hα
    have hl2:(μ.take μ₀.length).length=μ₀.length:=by rw[← T.len];exact hl
    have u_:∀{γ:Type}{l:List γ}{z:γ}{j:Nat}{y:γ},l.length=μ₀.length->(l++[z])[j]?=some y->(j<μ₀.length/\l[j]?=some y)∨(j=μ₀.length/\y=z):=λ{γ l z j y} e h=>by
     by_cases hj:j<l.length
     ·rw[List.getElem?_append_left hj] at h;exact .inl ⟨by lia,h⟩
     ·rw[List.getElem?_append_right (by lia)] at h
      by_cases h0:j-l.length=0
      ·rw[h0] at h;simp at h;exact .inr ⟨by lia,h.symm⟩
      ·rw[List.getElem?_eq_none (by simp;lia)] at h;cases h
    have cut:∀{γ:Type}{l:List γ}{j:Nat}{z:γ},(l.take μ₀.length)[j]?=some z->l[j]?=some z:=λ{γ l j z} h=>by
     rw[List.getElem?_take] at h
     split at h
     ·exact h
     ·cases h
    refine⟨β.take μ₀.length++[a],hp.trans (List.prefix_append _ _),λb hb=>(List.mem_append.mp hb).elim (λz=>List.mem_of_mem_take z) λz=>by simp at z;subst z;exact List.mem_of_getElem? ha,⟨S.ext,by rw[List.length_append,List.length_append,hl,hl2];rfl,?_,λj b g=>?_,λj b u a' g1 g2=>?_,S.tps⟩,a,?_,rfl⟩
    ·rw[List.nodup_append]
     refine⟨T.nd,by simp,λb hb b' hb'=>?_⟩
     simp at hb'
     subst hb'
     intro q
     subst q
     obtain⟨j,hj⟩:=List.mem_iff_getElem?.mp hb
     have hj':j<μ₀.length:=by rw[← hl];exact(List.getElem?_eq_some_iff.mp hj).1
     have:=mV S.nd (cut hj) ha
     lia
    ·rcases u_ hl g with ⟨_,g'⟩|⟨_,rfl⟩
     ·exact T.there j b g'
     ·exact S.there k _ ha
    ·rcases u_ hl g2 with ⟨hj,g'⟩|⟨hj,rfl⟩
     ·rcases u_ hl2 g1 with ⟨_,g1'⟩|⟨hj',_⟩
      ·exact T.cell j b u a' g1' g'
      ·lia
     ·rcases u_ hl2 g1 with ⟨hj',_⟩|⟨_,e⟩
      ·lia
      ·exact S.cell k b u _ (by rw[hc,e]) ha
    ·rw[List.getElem?_append_right (by lia),hl]
     simp
 | box xs=>cases hg
theorem BM{μ₀:aa}{β:List Addr}{r:SV}{μ':aa}(hα:α.length=μ₀.length)(p:α <+: β)(S:bG K F β μ H)(h:cU K F β v x)(hg:ice μ₀.length x μ=.ok r μ') :
  ∃F',aN F F'/\(∀b,b∉β->F' b=F b)/\bG K F' α μ' H/\cU K F' α v r:=by
 unfold ice at hg
 obtain⟨t,μ1,h1,hg⟩:=R.aJ hg
 cases hg
 obtain⟨F1,s1,n1,S1,q1⟩:=mW S h h1
 have hn:β.take μ₀.length=α:=by
  rw[← hα]
  obtain⟨l,rfl⟩:=p
  simp
 have S2:=S1.take μ₀.length
 rw[hn] at S2
 exact⟨F1,s1,n1,S2,q1⟩
end
structure Ex(F:Hp)(α:List Addr)(H F':Hp)(α':List Addr)(H':Hp):Prop where
 same:aN F F'
 pre:α <+: α'
 fr:∀b o,H b=some o->F b=none->b∉α->H' b=some o/\F' b=none/\b∉α'
section
variable{K:PySem.W.Frag}{F F' F1 F2 H H' H1 H2:Hp}{α α' α1 α2:List Addr}{μ μ':aa}
theorem Ex.refl:Ex F α H F α H:=⟨aN.refl F,List.prefix_refl _,λ_ _ h1 h2 h3=>⟨h1,h2,h3⟩⟩
theorem Ex.trans(x:Ex F α H F1 α1 H1)(y:Ex F1 α1 H1 F2 α2 H2):Ex F α H F2 α2 H2 :=
 ⟨x.same.trans y.same,x.pre.trans y.pre,λb o h1 h2 h3=>let ⟨g1,g2,g3⟩:=x.fr b o h1 h2 h3;y.fr b o g1 g2 g3⟩
theorem Ex.pB(s:aN F F')(n:∀b,b∉α->F' b=F b):Ex F α H F' α H:=⟨s,List.prefix_refl _,λb o h1 h2 h3=>⟨h1,by rw[n b h3];exact h2,h3⟩⟩
theorem a_.ex(g:a_ F H F' H')(s:aN F H):Ex F α H F' α H':=⟨g.same s,List.prefix_refl _,λb o h1 h2 h3=>by
 rcases g b with ⟨e1,e2⟩|⟨e1,e2⟩
 ·exact⟨by rw[e2];exact h1,by rw[e1];exact h2,h3⟩
 ·rw[h1] at e1;cases e1⟩
theorem Ex.was{p:Addr}(x:Ex F α H F1 α1 H1)(S:bG K F1 α1 μ H1)(h:H1 p=none):H p=none:=by
 cases q:H p with
 | none=>rfl
 | some o =>
  exfalso
  cases f:F p with
  | some z=>rw[S.ext p z (x.same p z f)] at h;cases h
  | none =>
   by_cases hm:p∈α
   ·obtain⟨k,hk⟩:=List.mem_iff_getElem?.mp hm
    obtain⟨z,hz⟩:=S.there k p (i3 x.pre hk)
    rw[hz] at h;cases h
   ·rw[(x.fr p o q f hm).1] at h;cases h
theorem Ex.lay{p:Addr}{o:HO}(h:H p=none):Ex F α H F α (upd H p o):=⟨aN.refl F,List.prefix_refl _,λb z h1 h2 h3=>⟨by rw[aI (λq=>by subst q;rw[h] at h1;cases h1)];exact h1,h2,h3⟩⟩
theorem Ex.put{k:Nat}{a:Addr}{o:HO}(ha:α[k]?=some a):Ex F α H F α (upd H a o):=⟨aN.refl F,List.prefix_refl _,λb z h1 h2 h3=>⟨by rw[aI (λq=>h3 (by rw[q];exact List.mem_of_getElem? ha))];exact h1,h2,h3⟩⟩
theorem Ex.more{p:Addr}(x:Ex F α H F' α' H')(h:H p=none):Ex F α H F' (α'++[p]) H':=⟨x.same,x.pre.trans (List.prefix_append _ _),λb o h1 h2 h3=>by
 obtain⟨g1,g2,g3⟩:=x.fr b o h1 h2 h3
 refine⟨g1,g2,λhm=>?_⟩
 rcases List.mem_append.mp hm with z|z
 ·exact g3 z
 ·simp at z;subst z;rw[h] at h1;cases h1⟩
theorem Ex.ice{p:Addr}{o:HO}(x:Ex F α H F' α' H')(h:H p=none)(h':F' p=none):Ex F α H (upd F' p o) α' H':=⟨x.same.trans λb z hz=>by
  rw[aI (λq=>by subst q;rw[h'] at hz;cases hz)];exact hz,x.pre,λb z h1 h2 h3=>by
 obtain⟨g1,g2,g3⟩:=x.fr b z h1 h2 h3
 exact⟨g1,by rw[aI (λq=>by subst q;rw[h] at h1;cases h1)];exact g2,g3⟩⟩
end
theorem dQ.length{K:PySem.W.Frag}{F:Hp}:∀{ts:List (Key×T)}{vs:List (Key×V)},dQ K F ts vs->ts.length=vs.length
 | [],vs,h=>by rw[dQ] at h;subst h;rfl
 | (k,t)::ts,vs,h=>by
  rw[dQ] at h
  obtain⟨v,vs',rfl,_,r⟩:=h
  rw[List.length_cons,List.length_cons,dQ.length r]
def R.wp{α:Type}(r:R α)(Q:α->aa->Prop)(E:T->aa->Prop):Prop:=match r with
 | .ok a μ=>Q a μ
 | .err c μ=>E c μ
 | .bad=>False
theorem R.wp_bind{α β:Type}{r:R α}{f:α->aa->R β}{Q:β->aa->Prop}{E:T->aa->Prop}(h:(r.bind f).wp Q E):r.wp (λa μ=>(f a μ).wp Q E) E:=by
 cases r<;>exact h
theorem R.wp.mono{α:Type}{r:R α}{Q Q':α->aa->Prop}{E E':T->aa->Prop}(h:r.wp Q E)(hQ:∀a μ,Q a μ->Q' a μ)(hE:∀c μ,E c μ->E' c μ):r.wp Q' E':=by
 cases r with
 | ok a μ=>exact hQ a μ h
 | err c μ=>exact hE c μ h
 | bad=>exact h
theorem R.aT{α:Type}{o:Option α}{μ:aa}{Q:α->aa->Prop}{E:T->aa->Prop}(h:(R.lift o μ).wp Q E):∃a,o=some a/\Q a μ:=by
 cases o with
 | none=>exact h.elim
 | some a=>exact⟨a,rfl,h⟩
def BN(K:PySem.W.Frag)(F:Hp)(α:List Addr)(H:Hp)(e:Slots)(σ:St)(Q:VK)(x:SV)(μ:aa):Prop :=
 ∀v H' F' α',Ex F α H F' α' H'->Sim K F' α' e μ σ H'->cU K F' α' v x->Q v H'
def mX(X:Cx)(pins:List (Addr×Obj))(σ:St)(H:Hp)(c:T)(ev:Value)(s':Shared):Prop :=
 ∃n C,c=.exc n none/\X.mg n=some (.ref C)/\((X.calm=true/\∃s h' e vs,Inv X pins σ H s/\Heap.MadeExcOf s.heap h' e (.ref C) vs/\ev=.ref e/\s'={ s with heap:=h' }) ∨
  (∃H0 s,Inv X pins σ H0 s/\CX1 X.prog X.w X.stack H0 s (λcv _ H'=>cv=.ref C/\H'=H) ev s')∨(X.calm=true/\∃e t B,ev=.ref e/\Hel X pins σ H e t C B s'))
def bX(X:Cx)(F:Hp)(α:List Addr)(H:Hp)(e:Slots)(c:T)(μ:aa):Prop :=
 ∀ev s',(∃pins σ' H' F' α',Ex F α H F' α' H'/\Sim X.K F' α' e μ σ' H'/\mX X pins σ' H' c ev s')->X.xe ev s'
theorem bX.mono{X:Cx}{F F1 H H1:Hp}{α α1:List Addr}{e:Slots}{c:T}{μ:aa}(x:Ex F α H F1 α1 H1)(h:bX X F α H e c μ):bX X F1 α1 H1 e c μ :=
 λev s' ⟨pins,σ',H',F',α',y,S,f⟩=>h ev s' ⟨pins,σ',H',F',α',x.trans y,S,f⟩
def tD(X:Cx)(d:D):TE:=λσ H Q=>∃F α e μ,Sim X.K F α e μ σ H/\(d e μ).wp (BN X.K F α H e σ Q) (bX X F α H e)
def tDT(X:Cx)(d:D):TT:=λσ H Q=>∃F α e μ,Sim X.K F α e μ σ H/\(d e μ).wp (λx μ'=>∃b,x=.val (.bl b) /\
 ∀H' F' α',Ex F α H F' α' H'->Sim X.K F' α' e μ' σ H'->Q b H') (bX X F α H e)
def tDA(X:Cx)(ds:List D):TA:=λσ H Q=>∃F α e μ,Sim X.K F α e μ σ H/\(bW ds e μ).wp (λxs μ' =>
 ∀vs H' F' α',Ex F α H F' α' H'->Sim X.K F' α' e μ' σ H'->Paired (λv x=>cU X.K F' α' v x) vs xs->Q vs H') (bX X F α H e)
def CE(X:Cx)(e:Expr)(d:D):Prop:=PE X e (tD X d)
def CT(X:Cx)(e:Expr)(d:D):Prop:=PT X e (tDT X d)
def CA(X:Cx)(es:List Expr)(ds:List D):Prop:=PA X es (tDA X ds)
theorem PE.imp{X:Cx}{e:Expr}{t t':TE}(h:PE X e t)(i:∀σ H Q,t' σ H Q->t σ H Q):PE X e t':=λpins s σ H Q I q=>h pins s σ H Q I (i σ H Q q)
theorem PT.imp{X:Cx}{e:Expr}{t t':TT}(h:PT X e t)(i:∀σ H Q,t' σ H Q->t σ H Q):PT X e t':=λpins s σ H Q I q=>h pins s σ H Q I (i σ H Q q)
theorem PA.imp{X:Cx}{e:List Expr}{t t':TA}(h:PA X e t)(i:∀σ H Q,t' σ H Q->t σ H Q):PA X e t':=λpos pins s σ H Q I q=>h pos pins s σ H Q I (i σ H Q q)
theorem PS.imp{X:Cx}{e:Stmt}{t t':TS}(h:PS X e t)(i:∀D σ H,t' D σ H->t D σ H):PS X e t':=λpins s σ H D I q=>h pins s σ H D I (i D σ H q)
theorem PSs.imp{X:Cx}{e:List Stmt}{t t':TS}(h:PSs X e t)(i:∀D σ H,t' D σ H->t D σ H):PSs X e t':=λpins s σ H D I q=>h pins s σ H D I (i D σ H q)
def cF(K:PySem.W.Frag)(r:R2)(f:T->T->Option T):Prop:=∀F H v u t t' w Q,aN F H->Now K F H v t->Now K F H u t'->f t t'=some w ->
 (∀v' H' F',a_ F H F' H'->Rep K F' w v'->Q v' H')->r v u H Q
def LC(K:PySem.W.Frag)(r:V->Hp->VK->Prop)(f:T->Option T):Prop:=∀F H v t w Q,aN F H->Now K F H v t->f t=some w ->
 (∀v' H' F',a_ F H F' H'->Rep K F' w v'->Q v' H')->r v H Q
def mY(K:PySem.W.Frag)(r:List V->Hp->VK->Prop)(f:T->Option T):Prop:=∀F H v t w Q,aN F H->Now K F H v t->f t=some w ->
 (∀v' H' F',a_ F H F' H'->Rep K F' w v'->Q v' H')->r [v] H Q
def sN(K:PySem.W.Frag)(r:List V->Hp->VK->Prop)(f:T->T->Option T):Prop:=∀F H v u t t' w Q,aN F H->Now K F H v t->Now K F H u t'->f t t'=some w ->
 (∀v' H' F',a_ F H F' H'->Rep K F' w v'->Q v' H')->r [v,u] H Q
def BO(K:PySem.W.Frag)(r:R2)(f:T->T->Option T):Prop:=∀F H v u t t' w Q,aN F H->Now K F H v t->Now K F H u t'->f t t'=some w ->
 (∀p o,H p=none->fi K F (upd H p o) p w->Q (.ref p) (upd H p o))->r v u H Q
section
variable{X:Cx}{a b c:Expr}{da db dc:D}{pos:Pos}
theorem af(i:Nat){x:Str}(hN:X.N[i]?=some x:=by rfl)(hv:Vis X.env.scope x:=by first|exact Or.inl rfl|exact Or.inr (Or.inl rfl)|exact Or.inr (Or.inr rfl))(hd:(x==("__debug__":Str))=false:=by decide)
  (hcd:(x==("__classdict__":Str))=false:=by decide):CE X (.Name x pos) (ae i) :=
 PE.imp (AK hN hv hd hcd) λσ H Q ao=>by
  obtain⟨F,α,e,μ,S,h⟩:=ao
  obtain⟨x,h1,h⟩:=R.aT h
  obtain⟨v,hv,ok⟩:=S.sl i x h1
  exact⟨v,hv,h v H F α Ex.refl S ok⟩
theorem gk{v:V}{t:T}(h:PE X a (tC v))(r:∀F,Rep X.K F t v):CE X a (dC t) :=
 PE.imp h λσ H Q ⟨F,α,e,μ,S,h⟩=>h v H F α Ex.refl S (r F)
theorem ai{i:Int}{j pos}:CE X (.Constant (.int i) j pos) (dC (.int i)):=gk Il λ_=>Rep.ij i
theorem lS{i:Bool}{j pos}:CE X (.Constant (.bool i) j pos) (dC (.bl i)):=gk KO λ_=>Rep.bl' i
theorem ak{i:Str}{j pos}:CE X (.Constant (.str i) j pos) (dC (.str i)):=gk Io λ_=>Rep.u6 i
theorem gC{j pos}:CE X (.Constant .none j pos) (dC .non):=gk Im λ_=>Rep.FU
theorem qu{x:Str}{i:Int}{tk:Nat}(hm:X.mg x=some (.int i tk))(hg:Gl X x:=by rfl)(hd:(x==("__debug__":Str))=false:=by decide):CE X (.Name x pos) (dC (.int i)):=gk (v:=.int i) (me hg hm ⟨tk,rfl⟩ hd) λ_=>Rep.ij i
theorem qv{x:Str}{i:Str}{tk:Nat}(hm:X.mg x=some (.str i tk))(hg:Gl X x:=by rfl)(hd:(x==("__debug__":Str))=false:=by decide):CE X (.Name x pos) (dC (.str i)):=gk (v:=.str i) (me hg hm ⟨tk,rfl⟩ hd) λ_=>Rep.u6 i
theorem two{r:R2}{f:T->T->Option T}(hs:cF X.K r f)(σ:St)(H:Hp)(Q:VK)(h:tD X (ah f da db) σ H Q):tOp r (tD X da) (tD X db) σ H Q:=by
 obtain⟨F,α,e,μ,S,h⟩:=h
 refine⟨F,α,e,μ,S,?_⟩
 refine(R.wp_bind h).mono (λx μ1 h v H1 F1 α1 x1 S1 o1=>⟨F1,α1,e,μ1,S1,?_⟩) λ_ _ h=>h
 refine(R.wp_bind h).mono (λy μ2 h v2 H2 F2 α2 x2 S2 o2=>?_) λ_ _ h=>h.mono x1
 obtain⟨w,h9,post⟩:=R.aT h
 obtain⟨t,u,w',ht,hu,h,rfl⟩:=k9 h9
 exact hs F2 H2 v v2 t u w' Q S2.st.ext (a5 S2.st (o1.mono x2.same x2.pre) ht) (a5 S2.st o2 hu) h λv' H' F' g rp =>
  post v' H' F' α2 (x1.trans (x2.trans (g.ex S2.st.ext))) (S2.grow g) rp
theorem ll{op:Operator}{r:R2}{f:T->T->Option T}(ho:OpR X (binaryOp op) r)(hs:cF X.K r f)(ha:CE X a da)(hb:CE X b db):CE X (.BinOp a op b pos) (ah f da db) :=
 PE.imp (AS ho ha hb) (two hs)
theorem mZ{op:CmpOp}{r:R2}{f:T->T->Option T}(ho:OpR X (compareOp op) r)(hs:cF X.K r f)(hm:behindInMarks op b=false)(ha:CE X a da)(hb:CE X b db):CE X (.Compare a [op] [b] pos) (ah f da db) :=
 PE.imp (EZ ho ha hb hm) (two hs)
theorem one{r:V->Hp->VK->Prop}{f:T->Option T}(hs:LC X.K r f)(σ:St)(H:Hp)(Q:VK)(h:tD X (dUn f da) σ H Q):tUn r (tD X da) σ H Q:=by
 obtain⟨F,α,e,μ,S,h⟩:=h
 refine⟨F,α,e,μ,S,?_⟩
 refine(R.wp_bind h).mono (λx μ1 h v H1 F1 α1 x1 S1 o1=>?_) λ_ _ h=>h
 obtain⟨w,h9,post⟩:=R.aT h
 obtain⟨t,w',ht,h,rfl⟩:=k8 h9
 exact hs F1 H1 v t w' Q S1.st.ext (a5 S1.st o1 ht) h λv' H' F' g rp =>
  post v' H' F' α1 (x1.trans (g.ex S1.st.ext)) (S1.grow g) rp
theorem au:CA X [] []:=PA.imp qi λσ H Q ⟨F,α,e,μ,S,h⟩=>h [] H F α Ex.refl S .nil
theorem ag{es:List Expr}{ds:List D}(ha:CE X a da)(hr:CA X es ds)(hs:starEach (a::es) X.env=(false,eval a X.env)::starEach es X.env:=by rfl):CA X (a::es) (da::ds) :=
 PA.imp (gy ha hr hs) λσ H Q ao=>by
  obtain⟨F,α,e,μ,S,h⟩:=ao
  rw[bz] at h
  refine⟨F,α,e,μ,S,(R.wp_bind h).mono (λx μ1 h v H1 F1 α1 x1 S1 o1=>⟨F1,α1,e,μ1,S1,?_⟩) λ_ _ h=>h⟩
  refine(R.wp_bind h).mono (λxs μ2 h vs H2 F2 α2 x2 S2 o2=>?_) λ_ _ h=>h.mono x1
  exact h (v::vs) H2 F2 α2 (x1.trans x2) S2 (.cons (o1.mono x2.same x2.pre) o2)
theorem pC:∀{ds:List D}{e:Slots}{μ μ':aa}{xs:List SV},bW ds e μ=.ok xs μ'->xs.length=ds.length
 | [],e,μ,μ',xs,h=>by cases h;rfl
 | d::ds,e,μ,μ',xs,h=>by
  rw[bz] at h
  obtain⟨x,μ1,hx,h⟩:=R.aJ h
  obtain⟨ys,μ2,hy,h⟩:=R.aJ h
  cases h
  rw[List.length_cons,List.length_cons,pC hy]
theorem dz{ds:List D}{e:Slots}{μ:aa}{Q:List SV->aa->Prop}{E:T->aa->Prop}(h:(bW ds e μ).wp Q E):(bW ds e μ).wp (λxs μ'=>xs.length=ds.length/\Q xs μ') E:=by
 cases q:bW ds e μ with
 | ok xs μ'=>rw[q] at h;exact⟨pC q,h⟩
 | err c μ'=>rw[q] at h;exact h
 | bad=>rw[q] at h;exact h
theorem lq{n:Nat}{xs:List SV}{vs:List V}{P:V->SV->Prop}(h:xs.length=n)(o:Paired P vs xs)(hl:n≤1000):vs.length≤sizeLine:=by
 have e1:=o.length
 exact Nat.le_of_lt (pk (by lia))
theorem fX{es:List Expr}{ds:List D}{x1}(h:CA X es ds)(hl:ds.length≤1000:=by decide):CE X (.Tuple es x1 pos) (eP ds) :=
 PE.imp (IM h) λσ H Q ao=>by
  obtain⟨F,α,e,μ,S,h⟩:=ao
  refine⟨F,α,e,μ,S,(dz (R.wp_bind h)).mono (λxs μ1 dt vs H1 F1 α1 x1 S1 o1=>?_) λ_ _ h=>h⟩
  obtain⟨hn,h⟩:=dt
  have h:=R.wp_bind h
  cases hz:bS xs μ1 with
  | err c μ2 =>
   exact absurd hz (mi xs μ1 c μ2)
  | bad=>rw[hz] at h;exact h.elim
  | ok ts μ2 =>
   rw[hz] at h
   obtain⟨F2,s2,n2,S2,r2⟩:=ml S1.st o1 hz
   refine⟨lq hn o1 hl,λp hp=>?_⟩
   have g:a_ F2 H1 (upd F2 p (.tup vs)) (upd H1 p (.tup vs)):=a_.new hp
   refine h _ _ (upd F2 p (.tup vs)) α1 (x1.trans ((Ex.pB s2 n2).trans (g.ex S2.ext))) ((S1.of s2 (List.prefix_refl _) S2).grow g) ?_
   show Rep X.K _ (.tup ts) _
   rw[Rep]
   exact⟨p,vs,rfl,SqT.of aH,aD.mono (g.same S2.ext) _ _ r2⟩
def tF(X:Cx)(d:D):TE:=λσ H Q=>∃F α e μ,Sim X.K F α e μ σ H/\(d e μ).wp (λx μ'=>∃t,x=.val t /\
 ∀p H' F' α',Ex F α H F' α' H'->Sim X.K F' α' e μ' σ H'->H p=none->F' p=none->p∉α'->fi X.K F' H' p t->Q (.ref p) H') (bX X F α H e)
def CF(X:Cx)(e:Expr)(d:D):Prop:=PE X e (tF X d)/\∀e μ x μ',d e μ=.ok x μ'->∃t,x=.val t
theorem R.BP{P:SV->aa->Prop}{r:R SV}{E:T->aa->Prop}(h:r.wp P E):r.wp (λx μ=>r=.ok x μ/\P x μ) E:=by
 cases r with
 | ok a μ=>exact⟨rfl,h⟩
 | err c μ=>exact h
 | bad=>exact h
theorem sO{σ:St}{H:Hp}{Q:VK}(h2:∀e μ x μ',da e μ=.ok x μ'->∃t,x=.val t)(h:tD X da σ H Q):tF X da σ H Q:=by
 obtain⟨F,α,e,μ,S,hd⟩:=h
 refine⟨F,α,e,μ,S,(R.BP hd).mono (λx μ' ao=>?_) λ_ _ h=>h⟩
 obtain⟨hx,post⟩:=ao
 obtain⟨t,rfl⟩:=h2 e μ x μ' hx
 refine⟨t,rfl,λp H1 F1 α1 x1 S1 h0 hp hn c=>?_⟩
 obtain⟨o,ho⟩:=c.there
 have s2:aN F1 (upd F1 p o):=λb z hz=>by
  rw[aI (λq=>by subst q;rw[hp] at hz;cases hz)];exact hz
 have st:bG X.K (upd F1 p o) α1 μ' H1:=by
  refine⟨λb z hz=>?_,S1.st.len,S1.st.nd,S1.st.there,λk b u a' h1 h2=>?_,S1.st.tps.mono s2⟩
  ·by_cases eb:b=p
   ·subst eb;rw[aH] at hz;cases hz;exact ho
   ·rw[aI eb] at hz;exact S1.st.ext b z hz
  ·have na:a'≠p:=λq=>by subst q;exact hn (List.mem_of_getElem? h2)
   obtain⟨c1,c2⟩:=S1.st.cell k b u a' h1 h2
   refine⟨λhb=>⟨by rw[aI na];exact(c1 hb).1,?_⟩,λhb=>Rep.mono s2 _ _ (c2 hb)⟩
   have d2:=(c1 hb).2
   cases u with
   | lst ts=>obtain⟨vs,w1,w2⟩:=d2;exact⟨vs,w1,aD.mono s2 _ _ w2⟩
   | dct ts=>obtain⟨vs,w1,w2⟩:=d2;exact⟨vs,w1,dQ.mono s2 _ _ w2⟩
   | dtt fz ts=>exact d2
   | _=>exact d2.elim
 refine post _ _ (upd F1 p o) α1 (x1.ice h0 hp) (S1.of s2 (List.prefix_refl _) st) ?_
 show Rep X.K _ t _
 cases t with
 | lst ts=>obtain⟨vs,w1,w2⟩:=c;rw[w1] at ho;cases ho;rw[Rep];exact⟨p,vs,rfl,SqL.of aH,aD.mono s2 _ _ w2⟩
 | dct ts=>obtain⟨vs,w1,w2⟩:=c;rw[w1] at ho;cases ho;rw[Rep];exact⟨p,vs,rfl,aH,dQ.mono s2 _ _ w2⟩
 | dtt fz ts=>obtain⟨d4,d3⟩:=c;rw[d3] at ho;cases ho;rw[Rep];exact⟨p,rfl,.inl ⟨d4,aH⟩⟩
 | _=>exact c.elim
theorem CF.ce(h:CF X a da):CE X a da:=PE.imp h.1 λσ H Q q=>sO h.2 q
theorem yE{σ:St}{H:Hp}{Q:VK}(h2:∀e μ x μ',da e μ=.ok x μ'->∃t,x=.val t)(h:tD X (bQ da) σ H Q):tF X da σ H Q:=by
 obtain⟨F,α,e,μ,S,hd⟩:=h
 rw[sC] at hd
 refine⟨F,α,e,μ,S,(R.BP (R.wp_bind hd)).mono (λx μ1 ao=>?_) λ_ _ h=>h⟩
 obtain⟨hx,post⟩:=ao
 obtain⟨t,rfl⟩:=h2 e μ x μ1 hx
 refine⟨t,rfl,λp H1 F1 α1 x1 S1 h0 hp hn c=>?_⟩
 obtain⟨o,ho⟩:=c.there
 have u_:∀{k:Nat}{a:Addr},(α1++[p])[k]?=some a->(k<α1.length/\α1[k]?=some a)∨(k=α1.length/\a=p):=λ{k a} h=>by
  by_cases hk:k<α1.length
  ·rw[List.getElem?_append_left hk] at h;exact .inl ⟨hk,h⟩
  ·rw[List.getElem?_append_right (by lia)] at h
   by_cases h0:k-α1.length=0
   ·rw[h0] at h;simp at h;exact .inr ⟨by lia,h.symm⟩
   ·rw[List.getElem?_eq_none (by simp;lia)] at h;cases h
 have st:bG X.K F1 (α1++[p]) (μ1++[(true,t)]) H1:=by
  refine⟨S1.st.ext,by simp[S1.st.len],?_,λk a h=>?_,λk b u a h1 h2=>?_,S1.st.tps⟩
  ·rw[List.nodup_append]
   refine⟨S1.st.nd,by simp,λa ha b hb=>?_⟩
   simp at hb
   subst hb
   exact λq=>hn (by rw[← q];exact ha)
  ·rcases u_ h with ⟨_,g⟩|⟨_,rfl⟩
   ·exact S1.st.there k a g
   ·exact⟨o,ho⟩
  ·rcases u_ h2 with ⟨hk,g⟩|⟨hk,rfl⟩
   ·rw[List.getElem?_append_left (by rw[← S1.st.len];exact hk)] at h1
    exact S1.st.cell k b u a h1 g
   ·rw[hk,S1.st.len] at h1
    simp at h1
    obtain⟨rfl,rfl⟩:=h1
    exact⟨λ_=>⟨hp,c⟩,λz=>(by cases z)⟩
 refine post _ _ F1 (α1++[p]) (x1.more h0) (S1.of (aN.refl _) (List.prefix_append _ _) st) ⟨p,?_,rfl⟩
 rw[List.getElem?_append_right (by rw[S1.st.len];exact Nat.le_refl _),S1.st.len]
 simp
theorem CF.cell(h:CF X a da):CE X a (bQ da):=PE.imp h.1 λσ H Q q=>yE h.2 q
theorem ck{K:PySem.W.Frag}{F H:Hp}{α:List Addr}{μ:aa}{p:Addr}(S:bG K F α μ H)(h:H p=none):p∉α:=λhm=>by
 obtain⟨k,hk⟩:=List.mem_iff_getElem?.mp hm
 obtain⟨o,ho⟩:=S.there k p hk
 rw[h] at ho;cases ho
theorem bG.lay{K:PySem.W.Frag}{F H:Hp}{α:List Addr}{μ:aa}{p:Addr}{o:HO}(S:bG K F α μ H)(h:H p=none)(n:NT o:=by intro _ h;cases h):bG K F α μ (upd H p o):=by
 have hup:∀c z,H c=some z->(upd H p o) c=some z:=λc z hz=>by
  rw[aI (λq=>by subst q;rw[h] at hz;cases hz)];exact hz
 refine⟨λa z hz=>hup _ _ (S.ext a z hz),S.len,S.nd,λk a g=>?_,λk b u a h1 h2=>?_,S.tps.upd n⟩
 ·obtain⟨z,hz⟩:=S.there k a g
  exact⟨z,hup _ _ hz⟩
 ·obtain⟨c1,c2⟩:=S.cell k b u a h1 h2
  refine⟨λhb=>⟨(c1 hb).1,?_⟩,c2⟩
  have d2:=(c1 hb).2
  cases u with
  | lst ts=>obtain⟨vs,w1,w2⟩:=d2;exact⟨vs,hup _ _ w1,w2⟩
  | dct ts=>obtain⟨vs,w1,w2⟩:=d2;exact⟨vs,hup _ _ w1,w2⟩
  | dtt fz ts=>exact⟨d2.1,hup _ _ d2.2⟩
  | _=>exact d2.elim
theorem cx{es:List Expr}{ds:List D}(h:CA X es ds)(hl:ds.length≤1000:=by decide):CF X (.List es pos) (bq ds) :=
 ⟨PE.imp (AZ h) λσ H Q ao=>by
  obtain⟨F,α,e,μ,S,h⟩:=ao
  refine⟨F,α,e,μ,S,(dz (R.wp_bind h)).mono (λxs μ1 dt vs H1 F1 α1 x1 S1 o1=>?_) λ_ _ h=>h⟩
  obtain⟨hn,h⟩:=dt
  have h:=R.wp_bind h
  cases hz:bS xs μ1 with
  | err c μ2 =>
   exact absurd hz (mi xs μ1 c μ2)
  | bad=>rw[hz] at h;exact h.elim
  | ok ts μ2 =>
   rw[hz] at h
   obtain⟨t,e1,post⟩:=h
   cases e1
   obtain⟨F2,s2,n2,S2,r2⟩:=ml S1.st o1 hz
   refine⟨lq hn o1 hl,λp hp=>?_⟩
   exact post p _ F2 α1 (x1.trans ((Ex.pB s2 n2).trans (Ex.lay hp))) (S1.of s2 (List.prefix_refl _) (S2.lay hp)) (x1.was S1.st hp) (S2.ext.free hp) (ck S2 hp) ⟨vs,aH,r2⟩,
 λe μ x μ' h=>by
  unfold bq at h
  obtain⟨xs,μ1,hx,h⟩:=R.aJ h
  obtain⟨ts,μ2,hz,h⟩:=R.aJ h
  cases h
  exact⟨_,rfl⟩⟩
theorem BQ{f:T->T->Option T}{e:Slots}{μ μ':aa}{x:SV}(h:ah f da db e μ=.ok x μ'):∃t,x=.val t:=by
 unfold ah at h
 obtain⟨x,μ1,hx,h⟩:=R.aJ h
 obtain⟨y,μ2,hy,h⟩:=R.aJ h
 obtain⟨h9,rfl⟩:=R.jE h
 obtain⟨t,u,w',ht,hu,h,rfl⟩:=k9 h9
 exact⟨_,rfl⟩
theorem Jq{op:Operator}{r:R2}{f:T->T->Option T}(ho:OpR X (binaryOp op) r)(hs:BO X.K r f)(ha:CE X a da)(hb:CE X b db):CF X (.BinOp a op b pos) (ah f da db) :=
 ⟨PE.imp (AS ho ha hb) λσ H Q ao=>by
  obtain⟨F,α,e,μ,S,h⟩:=ao
  refine⟨F,α,e,μ,S,?_⟩
  refine(R.wp_bind h).mono (λx μ1 h v H1 F1 α1 x1 S1 o1=>⟨F1,α1,e,μ1,S1,?_⟩) λ_ _ h=>h
  refine(R.wp_bind h).mono (λy μ2 h v2 H2 F2 α2 x2 S2 o2=>?_) λ_ _ h=>h.mono x1
  obtain⟨w,h9,t',e1,post⟩:=R.aT h
  obtain⟨t,u,w',ht,hu,h,e2⟩:=k9 h9
  subst e1
  cases e2
  exact hs F2 H2 v v2 t u _ Q S2.st.ext (a5 S2.st (o1.mono x2.same x2.pre) ht) (a5 S2.st o2 hu) h λp o hp c =>
   post p _ F2 α2 (x1.trans (x2.trans (Ex.lay hp))) (S2.of (aN.refl _) (List.prefix_refl _) (S2.st.lay hp c.nt)) ((x1.trans x2).was S2.st hp) (S2.st.ext.free hp) (ck S2.st hp) c,
 λe μ x μ' h=>BQ h⟩
theorem pD{σ:St}{H:Hp}{Q:List V->Hp->Prop}(h:tD X da σ H λv H'=>Q [v] H'):tDA X [da] σ H Q:=by
 obtain⟨F,α,e,μ,S,h⟩:=h
 refine⟨F,α,e,μ,S,?_⟩
 rw[bz]
 cases q:da e μ with
 | err c μ1=>rw[q] at h;exact h
 | bad=>rw[q] at h;exact h
 | ok x μ1 =>
  rw[q] at h
  intro vs H1 F1 α1 x1 S1 o1
  cases o1 with
  | cons o1 o2=>cases o2;exact h _ H1 F1 α1 x1 S1 o1
theorem LD{r:List V->Hp->VK->Prop}{f:T->Option T}(hs:mY X.K r f)(σ:St)(H:Hp)(Q:VK)(h:tD X (dUn f da) σ H Q):tCB r (tDA X [da]) σ H Q :=
 pD (one (r:=λv H Q=>r [v] H Q) hs σ H Q h)
theorem call2{r:List V->Hp->VK->Prop}{f:T->T->Option T}(hs:sN X.K r f)(σ:St)(H:Hp)(Q:VK)(h:tD X (ah f da db) σ H Q):tCB r (tDA X [da,db]) σ H Q:=by
 obtain⟨F,α,e,μ,S,h⟩:=h
 refine⟨F,α,e,μ,S,?_⟩
 rw[bz]
 cases q:da e μ with
 | err c μ1=>rw[gz,q] at h;exact h
 | bad=>rw[gz,q] at h;exact h
 | ok x μ1 =>
  rw[gz,q] at h
  rw[R.aQ] at h ⊢
  rw[bz]
  cases q2:db e μ1 with
  | err c μ2=>rw[q2] at h;exact h
  | bad=>rw[q2] at h;exact h
  | ok y μ2 =>
   rw[q2] at h
   intro vs H1 F1 α1 x1 S1 o1
   cases o1 with
   | cons o1 o2 =>
    cases o2 with
    | cons o2 o3 =>
     cases o3
     obtain⟨w,h9,post⟩:=R.aT h
     obtain⟨t,u,w',ht,hu,h,rfl⟩:=k9 h9
     exact hs F1 H1 _ _ t u w' Q S1.st.ext (a5 S1.st o1 ht) (a5 S1.st o2 hu) h λv' H' F' g rp =>
      post v' H' F' α1 (x1.trans (g.ex S1.st.ext)) (S1.grow g) rp
end
theorem va{x:SV}{k:Bool}(h:asB x=some k):x=.val (.bl k):=by
 cases x with
 | val t=>cases t<;>first|(cases h;rfl)|cases h
 | cel j=>cases h
 | box xs=>cases h
theorem qw{β:Type}{r:R SV}{f:Bool->aa->R β}{Q:β->aa->Prop}{E:T->aa->Prop}(h:(r.bind λy μ1=>(R.lift (asB y) μ1).bind f).wp Q E) :
  r.wp (λx μ=>∃k,x=.val (.bl k)/\(f k μ).wp Q E) E:=(R.wp_bind h).mono (λx μ h=>by
 obtain⟨k,hk,h⟩:=R.aT (R.wp_bind h)
 exact⟨k,va hk,h⟩) λ_ _ h=>h
def CW(X:Cx)(e:Expr)(d:D):Prop:=PW X e (tDT X d)
theorem PW.imp{X:Cx}{e:Expr}{t t':TT}(h:PW X e t)(i:∀σ H Q,t' σ H Q->t σ H Q):PW X e t':=λwhole pins s σ H Q I q=>h whole pins s σ H Q I (i σ H Q q)
theorem pE{X:Cx}{d:D}{σ:St}{H:Hp}{Q:Bool->Hp->Prop}(h:tDT X d σ H Q):tD X d σ H λx H'=>∃k,x=.bl k/\Q k H':=by
 obtain⟨F,α,e,μ,S,h⟩:=h
 refine⟨F,α,e,μ,S,h.mono (λx μ' ao v H' F' α' y S' o=>?_) λ_ _ h=>h⟩
 obtain⟨b,hb,post⟩:=ao
 subst hb
 exact⟨b,Rep.mU (K:=X.K) (F:=F') o,post H' F' α' y S'⟩
section
variable{X:Cx}{a b c:Expr}{da db dc:D}{pos:Pos}{rest:List Expr}
theorem eI(h:CE X a da)(he:∀whole,isTrue a X.env whole=(do let v ← whole;standAt a.pos;holding [v] (truthy v)):=by intro _;rfl):CT X a da :=
 PT.imp (Ip h he) λσ H Q q=>pE q
theorem iA{op:CmpOp}{r:R2}{f:T->T->Option T}(ho:OpR X (compareOp op) r)(hs:cF X.K r f)(hm:behindInMarks op b=false)(ha:CE X a da)(hb:CE X b db):CT X (.Compare a [op] [b] pos) (ah f da db) :=
 PT.imp (E1 ho ha hb hm) λσ H Q q=>two hs σ H _ (pE q)
theorem iB(h:CT X a da):CT X (.UnaryOp .Not a pos) (gA da):=PT.imp (Ir h) λσ H Q ao=>by
 obtain⟨F,α,e,μ,S,h⟩:=ao
 refine⟨F,α,e,μ,S,(qw h).mono (λx μ1 ⟨k,hx,b,hb,h⟩=>⟨k,hx,?_⟩) λ_ _ h=>h⟩
 cases hb
 exact h
theorem e8(h:CT X a da):CW X (.BoolOp .Or [a] pos) da:=Iq h
theorem CW.ct(h:CW X a da):CT X a da:=PW.pt h
theorem lT(ha:CT X a da)(hb:CW X (.BoolOp .Or (b::rest) pos) db):CW X (.BoolOp .Or (a::b::rest) pos) (dOr da db) :=
 PW.imp (KP ha hb) λσ H Q ao=>by
  obtain⟨F,α,e,μ,S,h⟩:=ao
  refine⟨F,α,e,μ,S,(qw h).mono (λx μ1 ⟨k,hx,h⟩=>⟨k,hx,λH1 F1 α1 x1 S1=>?_⟩) λ_ _ h=>h⟩
  cases k with
  | true =>
   rw[if_pos rfl] at h ⊢
   obtain⟨b,hb,h⟩:=h
   cases hb
   exact h H1 F1 α1 x1 S1
  | false =>
   rw[if_neg Bool.false_ne_true] at h ⊢
   exact⟨F1,α1,e,μ1,S1,h.mono (λy μ2 ⟨b,hb,h⟩=>⟨b,hb,λH2 F2 α2 x2 S2=>h H2 F2 α2 (x1.trans x2) S2⟩) λ_ _ h=>h.mono x1⟩
theorem qx{op}(h:CE X a da):CE X (.BoolOp op [a] pos) da:=Iu h
theorem jI(ha:CE X a da)(hb:CE X (.BoolOp .And (b::rest) pos) db):CE X (.BoolOp .And (a::b::rest) pos) (j_ da db) :=
 PE.imp (Iv ha hb) λσ H Q ao=>by
  obtain⟨F,α,e,μ,S,h⟩:=ao
  refine⟨F,α,e,μ,S,(qw h).mono (λx μ1 dt v H1 F1 α1 x1 S1 o1=>?_) λ_ _ h=>h⟩
  obtain⟨k,hx,h⟩:=dt
  subst hx
  refine⟨k,Rep.mU (K:=X.K) (F:=F1) o1,?_⟩
  cases k with
  | true =>
   rw[if_pos rfl] at h ⊢
   exact⟨F1,α1,e,μ1,S1,h.mono (λy μ2 h v H2 F2 α2 x2 S2 o2=>h v H2 F2 α2 (x1.trans x2) S2 o2) λ_ _ h=>h.mono x1⟩
  | false =>
   rw[if_neg Bool.false_ne_true] at h ⊢
   exact h _ H1 F1 α1 x1 S1 (Rep.bl' (K:=X.K) (F:=F1) _)
end
def aU(X:Cx)(F:Hp)(α:List Addr)(H:Hp)(D:Ends):RS->Prop
 | .nx e' μ'=>∀σ' H' F' α',Ex F α H F' α' H'->Sim X.K F' α' e' μ' σ' H'->D.nx σ' H'
 | .rt x μ'=>∀v H' F' α',Ex F α H F' α' H'->bG X.K F' α' μ' H'->cU X.K F' α' v x->D.rt v H'
 | .bk e' μ'=>∀σ' H' F' α',Ex F α H F' α' H'->Sim X.K F' α' e' μ' σ' H'->D.bk σ' H'
 | .ct e' μ'=>∀σ' H' F' α',Ex F α H F' α' H'->Sim X.K F' α' e' μ' σ' H'->D.ct σ' H'
 | .err c e' μ'=>bX X F α H e' c μ'
 | .bad=>False
theorem aU.mono{X:Cx}{F F' H H':Hp}{α α':List Addr}{D:Ends}{r:RS}(x:Ex F α H F' α' H')(h:aU X F α H D r):aU X F' α' H' D r:=by
 cases r with
 | nx e μ=>exact λσ H F2 α2 x2=>h σ H F2 α2 (x.trans x2)
 | rt y μ=>exact λσ H F2 α2 x2=>h σ H F2 α2 (x.trans x2)
 | bk e μ=>exact λσ H F2 α2 x2=>h σ H F2 α2 (x.trans x2)
 | ct e μ=>exact λσ H F2 α2 x2=>h σ H F2 α2 (x.trans x2)
 | err c e μ=>exact bX.mono x h
 | bad=>exact h
def tDS(X:Cx)(d:DS):TS:=λD σ H=>∃F α e μ,Sim X.K F α e μ σ H/\aU X F α H D (d e μ)
def CS(X:Cx)(st:Stmt)(d:DS):Prop:=PS X st (tDS X d)
def CSs(X:Cx)(st:List Stmt)(d:DS):Prop:=PSs X st (tDS X d)
theorem aU.toS{α':Type}{X:Cx}{F H:Hp}{α:List Addr}{D:Ends}{x:R α'}{e:Slots}{f:α'->aa->RS}(h:aU X F α H D (x.toS e f)):x.wp (λa μ=>aU X F α H D (f a μ)) (bX X F α H e):=by
 cases x with
 | ok a μ=>exact h
 | err c μ=>exact h
 | bad=>exact h
theorem aU.lift{α':Type}{X:Cx}{F H:Hp}{α:List Addr}{D:Ends}{o:Option α'}{μ:aa}{e:Slots}{f:α'->aa->RS}(h:aU X F α H D ((R.lift o μ).toS e f)):∃a,o=some a/\aU X F α H D (f a μ):=R.aT h.toS
theorem aU.asB{X:Cx}{F H:Hp}{α:List Addr}{D:Ends}{x:R SV}{e:Slots}{f:Bool->aa->RS}(h:aU X F α H D (x.toS e λy μ1=>(R.lift (Fw.asB y) μ1).toS e f)):x.wp (λy μ1=>∃k,y=.val (.bl k)/\aU X F α H D (f k μ1)) (bX X F α H e) :=
 h.toS.mono (λy μ h=>by
  obtain⟨k,hk,h⟩:=h.lift
  exact⟨k,va hk,h⟩) λ_ _ h=>h
section
variable{X:Cx}{st:Stmt}{sts:List Stmt}{d d1 d2:DS}{e:Expr}{de:D}{pos:Pos}
theorem aR:CSs X [] a6:=PSs.imp EV λD σ H ⟨F,α,e,μ,S,h⟩=>h σ H F α Ex.refl S
theorem ar(h:CS X st d):CSs X [st] d:=EW h
theorem aj(h1:CS X st d1)(h2:CSs X sts d2):CSs X (st::sts) (aq d1 d2):=PSs.imp (AN h1 h2) λD σ H ao=>by
 obtain⟨F,α,e,μ,S,h⟩:=ao
 refine⟨F,α,e,μ,S,?_⟩
 unfold aq at h
 cases q:d1 e μ with
 | nx e1 μ1 =>
  rw[q] at h
  exact λσ' H' F' α' x S'=>⟨F',α',e1,μ1,S',h.mono x⟩
 | rt x μ1=>rw[q] at h;exact h
 | bk e1 μ1=>rw[q] at h;exact h
 | ct e1 μ1=>rw[q] at h;exact h
 | err c e1 μ1=>rw[q] at h;exact h
 | bad=>rw[q] at h;exact h
theorem aL(he:CE X e de):CS X (.Return (some e) pos) (aK de):=PS.imp (Iw he) λD σ H ⟨F,α,e,μ,S,h⟩ =>
 ⟨F,α,e,μ,S,(aU.toS h).mono (λx μ1 h v H1 F1 α1 x1 S1 o1=>h v H1 F1 α1 x1 S1.st o1) λ_ _ h=>h⟩
theorem slot_set{e:Slots}{i j:Nat}{x y:SV}(h:slot (e.set i (some x)) j=some y):(j=i/\y=x)∨slot e j=some y:=by
 unfold slot at h
 by_cases q:i=j
 ·subst q
  by_cases hl:i<e.length
  ·rw[List.getElem?_set_self hl] at h
   cases h
   exact .inl ⟨rfl,rfl⟩
  ·rw[List.getElem?_eq_none (by rw[List.length_set];omega)] at h
   cases h
 ·rw[List.getElem?_set_ne q] at h
  exact .inr h
theorem Sim.set{K:PySem.W.Frag}{F H:Hp}{α:List Addr}{e:Slots}{μ:aa}{σ:St}{v:V}{x:SV}{i:Nat}(S:Sim K F α e μ σ H)(o:cU K F α v x):Sim K F α (e.set i (some x)) μ (σ.set i (some v)) H:=by
 refine⟨S.st,λj y h=>?_,by rw[List.length_set,List.length_set,S.len]⟩
 by_cases q:i=j
 ·subst q
  have hl:i<e.length:=by
   unfold slot at h
   by_cases hl:i<e.length
   ·exact hl
   ·rw[List.getElem?_eq_none (by rw[List.length_set];omega)] at h
    cases h
  have hy:y=x:=by
   unfold slot at h
   rw[List.getElem?_set_self hl] at h
   cases h;rfl
  subst hy
  exact⟨v,by rw[List.getElem?_set_self (by rw[← S.len];exact hl)],o⟩
 ·rcases slot_set h with ⟨rfl,_⟩|h
  ·exact absurd rfl q
  ·obtain⟨w,h1,h2⟩:=S.sl j y h
   exact⟨w,by rw[List.getElem?_set_ne q];exact h1,h2⟩
theorem aE(i:Nat){x:Str}{pos':Pos}(hN:X.N.Nodup)(he:CE X e de)(hi:X.N[i]?=some x:=by rfl)(hx:Loc X.env.scope x:=by first|exact Or.inl rfl|exact Or.inr rfl)(hs:swapsWith e (some (.Name x pos')) pos.line X.env=pure false:=by rfl)
  (hf:X.fn x=true∨X.env.scope.names.lookup x=some .local:=by first|exact .inl rfl|exact .inr rfl|assumption):CS X (.Assign [.Name x pos'] e pos) (az i de) :=
 PS.imp (IC hN hi hx he hs hf) λD σ H ⟨F,α,e,μ,S,h⟩ =>
  ⟨F,α,e,μ,S,(aU.toS h).mono (λx μ1 h v H1 F1 α1 x1 S1 o1=>h _ H1 F1 α1 x1 (S1.set o1)) λ_ _ h=>h⟩
theorem br{c:Expr}{as bs:List Stmt}{dc:D}(hc:CT X c dc)(ha:CSs X as d1)(hb:CSs X bs d2):CS X (.If c as bs pos) (sIf dc d1 d2):=PS.imp (KU hc ha hb) λD σ H ao=>by
 obtain⟨F,α,e,μ,S,h⟩:=ao
 refine⟨F,α,e,μ,S,(aU.asB h).mono (λx μ1 ⟨k,hk,h⟩=>⟨k,hk,λH1 F1 α1 x1 S1=>?_⟩) λ_ _ h=>h⟩
 cases k with
 | true=>exact⟨F1,α1,e,μ1,S1,aU.mono x1 h⟩
 | false=>exact⟨F1,α1,e,μ1,S1,aU.mono x1 h⟩
end
end Fw
namespace Fw
open PySem PySem.Spec PyProof.Rows L2
def LF(K:PySem.W.Frag)(F:Hp)(α:List Addr)(J:It)(W:Wk):Prop:=∀F2 α2 μ2 H2,aN F F2->α <+: α2->bG K F2 α2 μ2 H2->W.same μ2 ->
 (∀i t,W.items[i]?=some t->J.go i H2/\∀x H3,J.yld i H2 x H3->∃F3,a_ F2 H2 F3 H3/\Rep K F3 t x)/\J.stop W.items.length H2
def tDI(X:Cx)(d:DI):TI:=λσ H R=>∃F α e μ,Sim X.K F α e μ σ H/\(d e μ).wp (λW μ' =>
 ∀J H' F' α',Ex F α H F' α' H'->Sim X.K F' α' e μ' σ H'->LF X.K F' α' J W->R J H') (bX X F α H e)
def CI(X:Cx)(tg e:Expr)(d:DI):Prop:=PI X tg e (tDI X d)
theorem PI.imp{X:Cx}{tg e:Expr}{t t':TI}(h:PI X tg e t)(i:∀σ H R,t' σ H R->t σ H R):PI X tg e t':=λpins s σ H R I q=>h pins s σ H R I (i σ H R q)
def LG(K:PySem.W.Frag)(tl:TE):TI:=λσ H R=>tl σ H λx H1=>∃a,x=.ref a/\(((∃xs,SqL K H1 a xs)/\R (Itl K a) H1)∨((∃xs,SqT K H1 a xs)/\R (Itt K a) H1))
section
variable{X:Cx}{tg:Expr}
theorem FW{l:Expr}{tl:TE}(hl:PE X l tl):PI X tg l (LG X.K tl):=by
 intro pins s σ H R I h
 refine thn (hl pins s σ H _ I h) λv s1 ao=>?_
 obtain⟨x,H1,I1,r1,q1⟩:=ao
 obtain⟨a,e,q⟩:=q1
 subst e
 cases r1
 rcases q with ⟨⟨xs,hq⟩,q⟩|⟨⟨xs,hq⟩,q⟩
 ·obtain⟨its,rv,p,hz⟩:=I1.list hq
  refine wpAny_pyIter_list p.isList ?_
  refine⟨s1.heap.objs.size,[s1.heap.objs.size],_,_,H1,rfl,I1.kept (t':=s1.toks) λb o e=>Heap.get?_push_of_some _ e,xZ a _,⟨_,Heap.get?_push_size _ rfl,rfl,rfl⟩,λb hb=>?_,q⟩
  have e:b=s1.heap.objs.size:=by simpa using hb
  subst e
  exact I1.xY (Nat.le_refl _) (I1.hok.fresh (Nat.le_refl _))
 ·obtain⟨its,rv,p,hz⟩:=I1.tuple hq
  refine wpAny_pyIter_tuple (show s1.heap.IsTuple a its.toArray from p) ?_
  refine⟨s1.heap.objs.size,[s1.heap.objs.size],_,_,H1,rfl,I1.kept (t':=s1.toks) λb o e=>Heap.get?_push_of_some _ e,uO a _,⟨_,Heap.get?_push_size _ rfl,rfl,rfl⟩,λb hb=>?_,q⟩
  have e:b=s1.heap.objs.size:=by simpa using hb
  subst e
  exact I1.xY (Nat.le_refl _) (I1.hok.fresh (Nat.le_refl _))
theorem lr{a:Expr}{da:D}(h:CE X a da):CI X tg a (fB da):=PI.imp (FW h) λσ H R0 ao=>by
 obtain⟨F,α,e,μ,S,h⟩:=ao
 refine⟨F,α,e,μ,S,(R.wp_bind h).mono (λx μ1 h v H1 F1 α1 x1 S1 o1=>?_) λ_ _ h=>h⟩
 obtain⟨ts,ht,post⟩:=R.aT (R.wp_bind h)
 obtain⟨t,hr,ht⟩:=Option.bind_eq_some_iff.mp ht
 have n1:=a5 S1.st o1 hr
 cases t with
 | lst us =>
  cases ht
  obtain⟨a,vs,rfl,hq,hl⟩:=n1
  refine⟨a,rfl,.inl ⟨⟨vs,hq⟩,post _ H1 F1 α1 x1 S1 λF2 α2 μ2 H2 s2 p2 S2 same=>?_⟩⟩
  obtain⟨a',vs',e1,hq2,hl2⟩:=a5 S2 (o1.mono s2 p2) ((show rd μ2 x=rd μ1 x from same).trans hr)
  cases e1
  refine⟨λi t hi=>?_,⟨vs',hq2,by rw[← hl2.length];exact Nat.le_refl _⟩⟩
  obtain⟨v,hv,rv⟩:=hl2.get hi
  exact⟨⟨vs',v,hq2,hv⟩,λy H3 dt=>by
   obtain⟨e3,hy⟩:=dt
   subst e3
   have:=hy vs' hq2
   rw[hv] at this;cases this
   exact⟨F2,a_.refl,rv⟩⟩
 | tup us =>
  cases ht
  obtain⟨a,vs,rfl,hq,hl⟩:=n1
  refine⟨a,rfl,.inr ⟨⟨vs,aN.jh S1.st.ext hq⟩,post _ H1 F1 α1 x1 S1 λF2 α2 μ2 H2 s2 p2 S2 same=>?_⟩⟩
  obtain⟨a',vs',e1,hq2,hl2⟩:=a5 S2 (o1.mono s2 p2) ((show rd μ2 x=rd μ1 x from same).trans hr)
  have hq2:=aN.jh S2.ext hq2
  cases e1
  refine⟨λi t hi=>?_,⟨vs',hq2,by rw[← hl2.length];exact Nat.le_refl _⟩⟩
  obtain⟨v,hv,rv⟩:=hl2.get hi
  exact⟨⟨vs',v,hq2,hv⟩,λy H3 sd=>by
   obtain⟨e3,hy⟩:=sd
   subst e3
   have:=hy vs' hq2
   rw[hv] at this;cases this
   exact⟨F2,a_.refl,rv⟩⟩
 | _=>cases ht
theorem pF:∀{n:Nat}{lo:Int}{i:Nat}{t:T},(cj lo n)[i]?=some t->i<n/\t=.int (lo+i)
 | 0,lo,i,t,h=>by simp[cj] at h
 | n+1,lo,0,t,h=>by
  simp[cj] at h
  subst h
  exact⟨Nat.succ_pos _,by simp⟩
 | n+1,lo,i+1,t,h=>by
  have h:(cj (lo+1) n)[i]?=some t:=by simpa [cj] using h
  obtain⟨h1,h2⟩:=pF h
  exact⟨Nat.succ_lt_succ h1,by rw[h2];congr 1;omega⟩
theorem kg:∀(n:Nat) (lo:Int),(cj lo n).length=n
 | 0,_=>rfl
 | n+1,lo=>by rw[cj,List.length_cons,kg]
theorem BR{K:PySem.W.Frag}{F:Hp}{α:List Addr}(lo:Int)(n:Nat):LF K F α (Itr lo n) ⟨cj lo n,λ_=>True⟩:=λF2 α2 μ2 H2 s2 p2 S2 _=>by
 refine⟨λi t hi=>?_,?_⟩
 ·obtain⟨h1,rfl⟩:=pF hi
  exact⟨h1,λx H3 ao=>by obtain⟨e1,e2⟩:=ao;subst e1;subst e2;exact⟨F2,a_.refl,Rep.ij _⟩⟩
 ·show n≤(cj lo n).length
  rw[kg];exact Nat.le_refl _
theorem kh{t:T}{i:Int}(h:dN t=some i):t=.int i:=by
 cases t<;>first|(cases h;rfl)|cases h
theorem i4{a:Expr}{da:D}{p pos:Pos}(hm:X.mg "range"=none)(h:CE X a da)(hg:Gl X "range":=by rfl)(hs:starEach [a] X.env=[(false,eval a X.env)]:=by rfl):CI X tg (.Call (.Name "range" p) [a] [] pos) (cY da) :=
 PI.imp (x_ hg hm (ag h au hs) hs) λσ H R0 ao=>by
  obtain⟨F,α,e,μ,S,h⟩:=ao
  refine pD ⟨F,α,e,μ,S,(R.wp_bind h).mono (λx μ1 h v H1 F1 α1 x1 S1 o1=>?_) λ_ _ h=>h⟩
  obtain⟨j,ht,h⟩:=R.aT (R.wp_bind h)
  obtain⟨t,hr,ht⟩:=Option.bind_eq_some_iff.mp ht
  cases kh ht
  by_cases hb':dw j=true
  ·rw[if_pos hb'] at h
   have hb:=gj hb'
   cases (a5 S1.st o1 hr).int
   exact⟨j,rfl,hb.1,hb.2,h _ H1 F1 α1 x1 S1 (BR 0 j.toNat)⟩
  ·rw[if_neg hb'] at h;exact h.elim
theorem BS{da db:D}{σ:L2.St}{H:Hp}{Q:List V->Hp->Prop}(h:∃F α e μ,Sim X.K F α e μ σ H/\(da e μ).wp (λx μ1=>(db e μ1).wp (λy μ2=>∀v u H' F' α',Ex F α H F' α' H'->Sim X.K F' α' e μ2 σ H'->cU X.K F' α' v x->cU X.K F' α' u y->Q [v,u] H') (bX X F α H e)) (bX X F α H e)):tDA X [da,db] σ H Q:=by
 obtain⟨F,α,e,μ,S,h⟩:=h
 refine⟨F,α,e,μ,S,?_⟩
 rw[bz]
 cases q:da e μ with
 | err c μ1=>rw[q] at h;exact h
 | bad=>rw[q] at h;exact h
 | ok x μ1 =>
  rw[q] at h
  rw[R.aQ,bz]
  have h:(db e μ1).wp _ _:=h
  cases q2:db e μ1 with
  | err c μ2=>rw[q2] at h;exact h
  | bad=>rw[q2] at h;exact h
  | ok y μ2 =>
   rw[q2] at h
   intro vs H1 F1 α1 x1 S1 o1
   cases o1 with
   | cons o1 o2 =>
    cases o2 with
    | cons o2 o3=>cases o3;exact h _ _ H1 F1 α1 x1 S1 o1 o2
theorem yF{a b:Expr}{da db:D}{p pos:Pos}(hm:X.mg "range"=none)(h:CE X a da)(h':CE X b db)(hg:Gl X "range":=by rfl)(hs:starEach [a,b] X.env=[(false,eval a X.env),(false,eval b X.env)]:=by rfl)(hs2:starEach [b] X.env=[(false,eval b X.env)]:=by rfl) :
  CI X tg (.Call (.Name "range" p) [a,b] [] pos) (mj da db) :=
 PI.imp (ya hg hm (ag h (ag h' au hs2) (by rw[hs,hs2])) hs hs2) λσ H R0 ao=>by
  obtain⟨F,α,e,μ,S,h⟩:=ao
  refine BS ⟨F,α,e,μ,S,(R.wp_bind h).mono (λx μ1 h=>(R.wp_bind h).mono (λy μ2 h v u H1 F1 α1 x1 S1 o1 o2=>?_) λ_ _ h=>h) λ_ _ h=>h⟩
  obtain⟨i,ht,h⟩:=R.aT (R.wp_bind h)
  obtain⟨t,hr,ht⟩:=Option.bind_eq_some_iff.mp ht
  cases kh ht
  obtain⟨j,ht,h⟩:=R.aT (R.wp_bind h)
  obtain⟨t,hr2,ht⟩:=Option.bind_eq_some_iff.mp ht
  cases kh ht
  by_cases hb':(dw i && dw j)=true
  ·rw[if_pos hb'] at h
   rw[Bool.and_eq_true] at hb'
   have hb:-(2 ^ 62)≤i/\i<2 ^ 62/\-(2 ^ 62)≤j/\j<2 ^ 62:=⟨(gj hb'.1).1,(gj hb'.1).2,(gj hb'.2).1,(gj hb'.2).2⟩
   cases (a5 S1.st o1 hr).int
   cases (a5 S1.st o2 hr2).int
   exact⟨i,j,rfl,hb,h _ H1 F1 α1 x1 S1 (BR i (j-i).toNat)⟩
  ·rw[if_neg hb'] at h;exact h.elim
end
def tBd(K:PySem.W.Frag)(b:BD):TG:=λv σ H Q=>∃F α e μ t e',Sim K F α e μ σ H/\Rep K F t v/\b t e=some e'/\∀σ',Sim K F α e' μ σ' H->Q σ' H
def CB(X:Cx)(tg:Expr)(b:BD):Prop:=PG X tg (tBd X.K b)
theorem PG.imp{X:Cx}{tg:Expr}{t t':TG}(h:PG X tg t)(i:∀v σ H Q,t' v σ H Q->t v σ H Q):PG X tg t':=λpins s σ H v u Q I r q=>h pins s σ H v u Q I r (i v σ H Q q)
section
variable{X:Cx}{pos:Pos}
theorem cM(i:Nat){x:Str}(hN:X.N.Nodup)(hi:X.N[i]?=some x:=by rfl)(hx:Loc X.env.scope x:=by first|exact Or.inl rfl|exact Or.inr rfl)(hf:X.fn x=true∨X.env.scope.names.lookup x=some .local:=by first|exact .inl rfl|exact .inr rfl|assumption) :
  CB X (.Name x pos) (aS i):=PG.imp (qe hN hi hx hf) λv σ H Q ao=>by
 obtain⟨F,α,e,μ,t,e',S,r,hb,q⟩:=ao
 cases hb
 exact q _ (S.set (x:=.val t) r)
theorem FX(i j:Nat){x y:Str}{px py:Pos}{k:Nat}(hN:X.N.Nodup)(hc:X.calm=true)(hi:X.N[i]?=some x:=by rfl)(hj:X.N[j]?=some y:=by rfl)(hx:Loc X.env.scope x:=by first|exact Or.inl rfl|exact Or.inr rfl)
  (hy:Loc X.env.scope y:=by first|exact Or.inl rfl|exact Or.inr rfl)
  (hf:X.fn x=true∨X.env.scope.names.lookup x=some .local:=by first|exact .inl rfl|exact .inr rfl|assumption) (hf':X.fn y=true∨X.env.scope.names.lookup y=some .local:=by first|exact .inl rfl|exact .inr rfl|assumption)
  : CB X (.Tuple [.Name x px,.Name y py] k pos) (u5 [i,j]) :=
 PG.imp (Iz hc (sa (qe hN hi hx hf) (sa (qe hN hj hy hf') EX))) λv σ H Q ao=>by
  obtain⟨F,α,e,μ,t,e',S,r,hb,q⟩:=ao
  cases t with
  | tup ts =>
   unfold u5 at hb
   simp only at hb
   by_cases hl:ts.length=[i,j].length
   ·rw[if_pos hl] at hb
    rw[Rep] at r
    obtain⟨a,vs,rfl,hq,hr⟩:=r
    match ts,vs,hl,hr with
    | [t1,t2],vs,_,hr =>
     rw[aD] at hr
     obtain⟨v1,vs1,rfl,r1,hr⟩:=hr
     rw[aD] at hr
     obtain⟨v2,vs2,rfl,r2,hr⟩:=hr
     rw[aD] at hr
     subst hr
     cases hb
     exact⟨a,_,rfl,aN.jh S.st.ext hq,rfl,v1,[v2],rfl,v2,[],rfl,rfl,q _ ((S.set (x:=.val t1) r1).set (x:=.val t2) r2)⟩
   ·rw[if_neg hl] at hb;cases hb
  | _=>cases hb
end
section
variable{X:Cx}{tg iter c:Expr}{body:List Stmt}{di:DI}{b:BD}{d:DS}{dc:D}{pos:Pos}
theorem iC(hp:PassesOwn (model X.prog X.w) X.A X.env X.xe)(hc:X.calm=true)(hi:CI X tg iter di)(hg:CB X tg b)(hb:CSs X body d)(hs:∀x,foldedSetIterable iter X.env x=pure x:=by intro _;rfl) :
  CS X (.For tg iter body [] pos) (fg di b d):=PS.imp (IE hp hc hi hg hb hs) λD σ H ao=>by
 obtain⟨F,α,e,μ,S,h⟩:=ao
 refine⟨F,α,e,μ,S,(aU.toS h).mono (λW μ1 h J H1 F1 α1 x1 S1 ok=>?_) λ_ _ h=>h⟩
 refine⟨λi m σ H=>m=W.items.length-i/\i≤W.items.length/\∃F2 α2 e2 μ2,aN F1 F2/\α1 <+: α2/\Sim X.K F2 α2 e2 μ2 σ H/\aU X F2 α2 H D (forL W.same b d (W.items.drop i) e2 μ2),
  ⟨_,rfl,Nat.zero_le _,F1,α1,e,μ1,aN.refl _,List.prefix_refl _,S1,aU.mono x1 h⟩,?_⟩
 rintro i m σ2 H2 ⟨rfl,hi,F2,α2,e2,μ2,s2,p2,S2,h⟩
 by_cases hlt:i<W.items.length
 ·rw[List.drop_eq_getElem_cons hlt] at h
  unfold forL at h
  by_cases hs:W.same μ2
  ·rw[if_pos hs] at h
   obtain⟨g1,g2⟩:=ok F2 α2 μ2 H2 s2 p2 S2.st hs
   obtain⟨go,yl⟩:=g1 i W.items[i] (by simp[hlt])
   cases hb':b W.items[i] e2 with
   | none=>simp only[hb'] at h;exact h.elim
   | some e3 =>
    simp only[hb'] at h
    refine .inr ⟨go,λσ' H'=>∃F4 α4 e4 μ4,aN F1 F4/\α1 <+: α4/\Sim X.K F4 α4 e4 μ4 σ' H'/\aU X F4 α4 H' D (forL W.same b d (W.items.drop (i+1)) e4 μ4),
     λσ' H' q=>⟨W.items.length-(i+1),by omega,rfl,hlt,q⟩,λx H3 y=>?_⟩
    obtain⟨F3,gr,rp⟩:=yl x H3 y
    have x3:Ex F2 α2 H2 F3 α2 H3:=gr.ex S2.st.ext
    refine⟨F3,α2,e2,μ2,W.items[i],e3,S2.grow gr,rp,hb',λσ4 S4=>⟨F3,α2,e3,μ2,S4,?_⟩⟩
    cases q:d e3 μ2 with
    | nx e5 μ5 =>
     simp only[q] at h
     exact λσ' H' F' α' x S'=>⟨F',α',e5,μ5,s2.trans (x3.same.trans x.same),p2.trans x.pre,S',aU.mono (x3.trans x) h⟩
    | ct e5 μ5 =>
     simp only[q] at h
     exact λσ' H' F' α' x S'=>⟨F',α',e5,μ5,s2.trans (x3.same.trans x.same),p2.trans x.pre,S',aU.mono (x3.trans x) h⟩
    | bk e5 μ5 =>
     simp only[q] at h
     exact λσ' H' F' α' x S'=>h σ' H' F' α' (x3.trans x) S'
    | rt x μ5 =>
     simp only[q] at h
     exact λv H' F' α' x S'=>h v H' F' α' (x3.trans x) S'
    | err c e5 μ5=>simp only[q] at h;exact bX.mono x3 h
    | bad=>simp only[q] at h;exact h
  ·rw[if_neg hs] at h;exact h.elim
 ·have e1:i=W.items.length:=by omega
  subst e1
  rw[List.drop_length] at h
  unfold forL at h
  by_cases hs:W.same μ2
  ·rw[if_pos hs] at h
   obtain⟨g1,g2⟩:=ok F2 α2 μ2 H2 s2 p2 S2.st hs
   exact .inl ⟨g2,h σ2 H2 F2 α2 Ex.refl S2⟩
  ·rw[if_neg hs] at h;exact h.elim
theorem sP(hp:PassesOwn (model X.prog X.w) X.A X.env X.xe)(hc:CT X c dc)(hb:CSs X body d):CS X (.While c body [] pos) (eG dc d):=PS.imp (AR hp hc hb) λD σ H ao=>by
 obtain⟨F,α,e,μ,S,h⟩:=ao
 unfold eG at h
 by_cases hn:∃n,ba dc d n e μ≠.bad
 ·rw[dif_pos hn] at h
  refine⟨λm σ H=>∃F2 α2 e2 μ2,Sim X.K F2 α2 e2 μ2 σ H/\aU X F2 α2 H D (ba dc d m e2 μ2),⟨_,F,α,e,μ,S,h⟩,?_⟩
  rintro m σ H ⟨F2,α2,e2,μ2,S2,h⟩
  cases m with
  | zero=>exact h.elim
  | succ m =>
   unfold ba at h
   refine⟨F2,α2,e2,μ2,S2,(aU.asB h).mono (λx μ3 ⟨k,hx,h⟩=>⟨k,hx,λH3 F3 α3 x3 S3=>?_⟩) λ_ _ h=>h⟩
   cases k with
   | false =>
    rw[if_neg Bool.false_ne_true] at h ⊢
    exact h σ H3 F3 α3 x3 S3
   | true =>
    rw[if_pos rfl] at h ⊢
    refine⟨λσ' H'=>∃F4 α4 e4 μ4,Sim X.K F4 α4 e4 μ4 σ' H'/\aU X F4 α4 H' D (ba dc d m e4 μ4),λσ' H' q=>⟨m,Nat.lt_succ_self m,q⟩,F3,α3,e2,μ3,S3,?_⟩
    cases q:d e2 μ3 with
    | nx e5 μ5 =>
     rw[q] at h
     exact λσ' H' F' α' x S'=>⟨F',α',e5,μ5,S',aU.mono (x3.trans x) h⟩
    | ct e5 μ5 =>
     rw[q] at h
     exact λσ' H' F' α' x S'=>⟨F',α',e5,μ5,S',aU.mono (x3.trans x) h⟩
    | bk e5 μ5 =>
     rw[q] at h
     exact λσ' H' F' α' x S'=>h σ' H' F' α' (x3.trans x) S'
    | rt x μ5 =>
     rw[q] at h
     exact λσ' H' F' α' x S'=>h σ' H' F' α' (x3.trans x) S'
    | err c e5 μ5=>rw[q] at h;exact bX.mono x3 h
    | bad=>rw[q] at h;exact h
 ·rw[dif_neg hn] at h;exact h.elim
end
end Fw
namespace L2
open PySem PySem.Spec PyProof.Rows
theorem qy{prog:Program}{w:World}{A:Around}{R:Result->Shared->Prop}{s:Shared}{elt target iter:Expr}{ifs:List Expr}{scope:Scope}{pos:Pos}{it acc:Value}{env:Env}(I:Nat->Shared->Prop)
  (turn:∀n s,I n s->wpAny (model prog w) A (pyNext it) (λr s₁=>match r with
   | none=>R (.ok .next) s₁
   | some v=>wpAny (model prog w) A (letOwnedTupleGo target it v) (λ_ s₁'=>wpAny (model prog w) A (assign target env v) (λ_ s₂ =>
     wpAny (model prog w) A (forIn ifs true λc r=>if r=true then do let ok ← isTrue c env (eval c env);pure (ForInStep.yield ok) else pure (ForInStep.yield r)) (λok s₃ =>
      if ok=true then wpAny (model prog w) A (eval elt env) (λx s₄ =>
       wpAny (model prog w) A (call (.builtin "list.append") [acc,x]) (λ_ s₅=>∃m,m<n/\I m s₅) (λ_ _=>False) s₄) (λ_ _=>False) s₃
      else ∃m,m<n/\I m s₃) (λ_ _=>False) s₂) (λ_ _=>False) s₁') (λ_ _=>False) s₁) (λ_ _=>False) s)
  (n:Nat) (h:I n s):codeAny (model prog w) A (.compLoop (.ListComp elt [⟨target,iter,ifs,0⟩] scope pos) 0 it acc env) R s:=by
 have no:∀{α:Type}{t:Sem α}{Q:α->Shared->Prop}{E:Value->Shared->Prop}{s:Shared},wpAny (model prog w) A t Q (λ_ _=>False) s->wpAny (model prog w) A t Q E s:=λh=>wpAny_mono h (λ_ _ x=>x) λ_ _ x=>x.elim
 refine codeAny_loop rfl I (λn s hI=>?_) n h
 show wpAny _ A ((compTurn (.ListComp elt [⟨target,iter,ifs,0⟩] scope pos) 0 it acc env).onRaise (λx=>do noteFrame x env;theTreesLotGoes x)) _ _ s
 refine wpAny_noted ?_
 rw[compTurn_list]
 refine wpAny_bind (wpAny_standAt (wpAny_bind (wpAny_mono (no (turn n s hI)) (λr s₁ h₁=>?_) λ_ _ h'=>h')))
 cases r with
 | none=>exact wpAny_pure h₁
 | some v =>
  refine wpAny_bind (wpAny_mono (no h₁) (λ_ s₁' h₁'=>?_) λ_ _ h'=>h')
  refine wpAny_bind (wpAny_mono (no h₁') (λ_ s₂ h₂=>wpAny_bind (wpAny_mono (no h₂) (λok s₃ h₃=>?_) λ_ _ h'=>h')) λ_ _ h'=>h')
  cases ok with
  | false=>exact wpAny_pure ⟨rfl,h₃⟩
  | true =>
   exact wpAny_bind (wpAny_bind (wpAny_mono (no h₃) (λx s₄ h₄=>wpAny_bind (wpAny_mono (no h₄) (λ_ s₅ h₅=>wpAny_pure (wpAny_pure ⟨rfl,h₅⟩)) λ_ _ h'=>h')) λ_ _ h'=>h'))
def bu(X:Cx)(N':List Str)(scope:Scope)(cl:List (Str×Addr))(C:Addr)(s₀:Shared)(H₀:Hp)(ex:List Addr):Cx :=
 { X with N:=N',s₀:=s₀,H₀:=H₀,env:=compEnvC scope cl C X.env,outer:=X.stack,stack:=X.stack,ex:=ex,fn:=λx=>(scope.names.lookup x==some NameKind.cell),pn:=[],xe:=λ_ _=>False }
def ji(X:Cx)(ifs:List Expr)(t:TT):Prop :=
 ∀(pins:List (Addr×Obj)) (s:Shared) (σ:St) (H:Hp) (Q:Bool->Hp->Prop),Inv X pins σ H s->t σ H Q ->
  wpAny (model X.prog X.w) X.A (forIn ifs true λc r=>if r=true then do let ok ← isTrue c X.env (eval c X.env);pure (ForInStep.yield ok) else pure (ForInStep.yield r)) (TP X pins σ Q) X.xe s
theorem BU{X:Cx}:ji X [] (λ_ H Q=>Q true H):=λ_ _ _ H _ I h=>wpAny_tests_nil ⟨H,I,h⟩
theorem BV{X:Cx}{c:Expr}{t:TT}(h:PT X c t):ji X [c] t:=λpins s σ H Q I q=>wpAny_tests_one (h pins s σ H Q I q)
def oR(mp:List (Option Nat))(σ:St):St:=mp.map λo=>o.bind λj=>(σ[j]?).bind id
structure dR(X:Cx)(N':List Str)(scope:Scope)(mp:List (Option Nat)):Prop where
 kind:scope.kind=.function
 cells:(scope.names.filter λy=>y.2==NameKind.cell).length≤1
 nd:(scope.names.map (·.1)).Nodup
 loc:∀x∈scope.names,x.2=.local->scope.names.lookup x.1=some .local
 free:∀y∈scope.names,y.2=.free->X.env.kindOf y.1=some .cell∨X.env.kindOf y.1=some .free
 len:mp.length=N'.length
 LH:∀(i j:Nat),mp[i]?=some (some j)->∃x,N'[i]?=some x/\X.N[j]?=some x/\(x,NameKind.free)∈scope.names/\(X.env.scope.names.lookup x=some .cell∨X.env.scope.names.lookup x=some .free)
 seen:∀x,(x,NameKind.free)∈scope.names->(relabel scope X.env).names.lookup x=some .cell∨(relabel scope X.env).names.lookup x=some .free
 back:∀x,(relabel scope X.env).names.lookup x=some .cell∨(relabel scope X.env).names.lookup x=some .free->(x,NameKind.free)∈scope.names∨scope.names.lookup x=some .cell
inductive FY(names:List (Str×NameKind))(n:Nat)(h:Heap)(acc:List (Str×Addr)):Prop where
 | no (h0:∀x,names.lookup x≠some .cell) (h1:cellsFrom n names acc=acc) (h2:pushCells h names=h)
 | one (y:Str) (h0:∀x,names.lookup x=some .cell->x=y) (hy:names.lookup y=some .cell) (h1:cellsFrom n names acc=(y,n)::acc) (h2:pushCells h names=h.push { cls:=.type "cell",data:=.cell none })
theorem sQ:∀(names:List (Str×NameKind)) (n:Nat) (h:Heap) (acc:List (Str×Addr)),names.filter (λy=>y.2==NameKind.cell)=[]->(∀x,names.lookup x≠some .cell)/\cellsFrom n names acc=acc/\pushCells h names=h
 | [],n,h,acc,_=>⟨λx=>by simp,rfl,rfl⟩
 | (y,k)::names,n,h,acc,e=>by
  rw[List.filter_cons] at e
  cases hk:(k==NameKind.cell) with
  | true=>rw[if_pos (by exact hk)] at e;cases e
  | false =>
   rw[if_neg (by simp[hk])] at e
   obtain⟨h1,h2,h3⟩:=sQ names n h acc e
   refine⟨λx hx=>?_,?_,?_⟩
   ·rw[List.lookup_cons] at hx
    cases hb:x==y with
    | true=>rw[hb] at hx;cases hx;simp at hk
    | false=>rw[hb] at hx;exact h1 x hx
   ·unfold cellsFrom;rw[if_neg (by simp[hk])];exact h2
   ·unfold pushCells;rw[if_neg (by simp[hk])];exact h3
theorem sR:∀(names:List (Str×NameKind)) (n:Nat) (h:Heap) (acc:List (Str×Addr)),(names.filter λy=>y.2==NameKind.cell).length≤1->(names.map (·.1)).Nodup->FY names n h acc
 | [],n,h,acc,_,_=>.no (λx=>by simp) rfl rfl
 | (y,k)::names,n,h,acc,e,nd=>by
  rw[List.filter_cons] at e
  have nd':=List.nodup_cons.mp (by simpa using nd:(y::names.map (·.1)).Nodup)
  cases hk:(k==NameKind.cell) with
  | true =>
   rw[if_pos (by exact hk)] at e
   have e0:names.filter (λy=>y.2==NameKind.cell)=[]:=List.length_eq_zero_iff.mp (by simpa using e)
   obtain⟨h1,h2,h3⟩:=sQ names (n+1) (h.push { cls:=.type "cell",data:=.cell none }) ((y,n)::acc) e0
   have ek:k=.cell:=by simpa using hk
   subst ek
   refine .one y (λx hx=>?_) (by simp) ?_ ?_
   ·rw[List.lookup_cons] at hx
    cases hb:x==y with
    | true=>exact eq_of_beq hb
    | false=>rw[hb] at hx;exact absurd hx (h1 x)
   ·unfold cellsFrom;rw[if_pos (by simp)];exact h2
   ·unfold pushCells;rw[if_pos (by simp)];exact h3
  | false =>
   rw[if_neg (by simp[hk])] at e
   have kn:k≠.cell:=by simpa using hk
   have lk:∀x,((y,k)::names).lookup x=some .cell->names.lookup x=some .cell:=λx hx=>by
    rw[List.lookup_cons] at hx
    cases hb:x==y with
    | true=>rw[hb] at hx;cases hx;exact absurd rfl kn
    | false=>rw[hb] at hx;exact hx
   cases sR names n h acc e nd'.2 with
   | no h0 h1 h2 =>
    refine .no (λx hx=>h0 x (lk x hx)) ?_ ?_
    ·unfold cellsFrom;rw[if_neg (by simp[hk])];exact h1
    ·unfold pushCells;rw[if_neg (by simp[hk])];exact h2
   | one z h0 hz h1 h2 =>
    have zne:(z==y)=false:=by
     have:z≠y:=λq=>by
      subst q
      exact nd'.1 (List.mem_map.mpr ⟨_,PySem.mem_of_lookup hz,rfl⟩)
     simpa using this
    refine .one z (λx hx=>h0 x (lk x hx)) (by rw[List.lookup_cons,zne];exact hz) ?_ ?_
    ·unfold cellsFrom;rw[if_neg (by simp[hk])];exact h1
    ·unfold pushCells;rw[if_neg (by simp[hk])];exact h2
theorem sS{M:Model}{A:Around}{E:Value->Shared->Prop}{s:Shared}{scope:Scope}{globals:Addr}{cl:List (Str×Addr)}{qual:Str}{outer:Env}{Q:Env->Shared->Prop}
  (hQ:Q (newEnv scope s.heap.objs.size globals (cellsFrom (s.heap.objs.size+1) scope.names cl) qual none .none (some outer) builtinsNs) { s with heap:=pushCells (s.heap.push { cls:=.type "dict",data:=.dict #[] }) scope.names }) :
  wpAny M A (newFunctionEnv scope globals cl [] qual none .none (some outer)) Q E s:=by
 simp only[newFunctionEnv,Option.isSome_some,if_true]
 refine wpAny_bind (wpAny_alloc ?_)
 refine wpAny_bind (wpAny_layCells _ (λname kind cells=>by cases hkc:kind==NameKind.cell<;>simp[hkc]) _ _ _ _ ?_)
 rw[show({ s with heap:=s.heap.push { cls:=.type "dict",data:=.dict #[] } }:Shared).heap.objs.size=s.heap.objs.size+1 from Heap.size_push ..]
 simp only[List.forIn_nil]
 exact wpAny_bind (wpAny_pure (wpAny_pure hQ))
theorem gD{env:Env}:∀(names:List (Str×NameKind)) (acc:List (Str×Addr)),(∀y∈names,y.2=.free->∃c,env.cells.lookup y.1=some c) ->
  ∃cl:List (Str×Addr),(forIn names acc λx r=>(if (x.2==NameKind.free)=true then do let c ← cellOf env x.1;pure (ForInStep.yield ((x.1,c)::r)) else pure (ForInStep.yield r):Sem (ForInStep (List (Str×Addr)))))=pure cl /\
   (∀x c,cl.lookup x=some c->acc.lookup x=some c∨env.cells.lookup x=some c)/\(∀x,(x,NameKind.free)∈names∨(acc.lookup x).isSome=true->(cl.lookup x).isSome=true)
 | [],acc,_=>⟨acc,rfl,λx c h=>.inl h,λx h=>by
   rcases h with h|h
   ·simp at h
   ·exact h⟩
 | (n,k)::r,acc,h=>by
  by_cases hk:k=.free
  ·subst hk
   obtain⟨c,hc⟩:=h (n,.free) List.mem_cons_self rfl
   obtain⟨cl,e,h1,h2⟩:=gD r ((n,c)::acc) λy hy=>h y (List.mem_cons_of_mem _ hy)
   refine⟨cl,?_,λx d hx=>?_,λx hx=>h2 x ?_⟩
   ·rw[List.forIn_cons]
    have e1:(NameKind.free==NameKind.free)=true:=by decide
    simp only[e1,if_true]
    have e2:cellOf env n=pure c:=by simp only[cellOf,hc]
    rw[e2]
    exact e
   ·rcases h1 x d hx with g|g
    ·rw[List.lookup_cons] at g
     cases q:x==n with
     | true =>
      rw[q] at g
      cases g
      have:x=n:=by simpa using q
      subst this
      exact .inr hc
     | false=>rw[q] at g;exact .inl g
    ·exact .inr g
   ·rcases hx with hx|hx
    ·rcases List.mem_cons.mp hx with g|g
     ·cases g
      right
      simp[List.lookup_cons]
     ·exact .inl g
    ·right
     rw[List.lookup_cons]
     cases q:x==n with
     | true=>rfl
     | false=>exact hx
  ·obtain⟨cl,e,h1,h2⟩:=gD r acc λy hy=>h y (List.mem_cons_of_mem _ hy)
   refine⟨cl,?_,h1,λx hx=>h2 x ?_⟩
   ·rw[List.forIn_cons]
    have e1:(k==NameKind.free)=false:=by simpa using hk
    simp only[e1,Bool.false_eq_true,if_false]
    exact e
   ·rcases hx with hx|hx
    ·rcases List.mem_cons.mp hx with g|g
     ·cases g
      exact absurd rfl hk
     ·exact .inl g
    ·exact .inr hx
theorem m4{scope:Scope}{env:Env}(h:∀y∈scope.names,y.2=.free->∃c,env.cells.lookup y.1=some c) :
  ∃cl,closureFor scope env=pure cl/\(∀x c,cl.lookup x=some c->env.cells.lookup x=some c)/\(∀x,(x,NameKind.free)∈scope.names->(cl.lookup x).isSome=true):=by
 obtain⟨cl,e,h1,h2⟩:=gD (env:=env) scope.names [] h
 refine⟨cl,?_,λx c hx=>(h1 x c hx).elim (λg=>by simp at g) id,λx hx=>h2 x (.inl hx)⟩
 simp only[closureFor]
 rw[e]
 rfl
section
variable{X:Cx}{elt iter tg:Expr}{ifs:List Expr}{scope:Scope}{pos:Pos}{N':List Str}{g:TG}{tc:TT}{te:TE}{mp:List (Option Nat)}
def wZ(J:It)(mp:List (Option Nat))(g:TG)(tc:TT)(te:TE)(σ:St)(H:Hp)(Q:VK):Prop:=∀p,H p=none->∃W:Nat->Nat->St->Hp->Prop,(∃m,W 0 m (oR mp σ) (upd H p (.lst [])))/\∀i m σ H,W i m σ H ->
 (J.stop i H/\Q (.ref p) H)∨(J.go i H/\∃N:St->Hp->Prop,(∀σ' H',N σ' H'->∃m',m'<m/\W (i+1) m' σ' H')/\∀x H',J.yld i H x H'->g x σ H' λσ2 H2=>tc σ2 H2 λb H3 =>
  if b=true then te σ2 H3 λy H4=>wM (.ref p) [y] H4 λ_ H5=>N σ2 H5 else N σ2 H3)
theorem BW{mp:List (Option Nat)}{σ:St}{i:Nat}{v:V}(h:(oR mp σ)[i]?=some (some v)):∃j,mp[i]?=some (some j)/\σ[j]?=some (some v):=by
 unfold oR at h
 rw[List.getElem?_map] at h
 cases q:mp[i]? with
 | none=>rw[q] at h;cases h
 | some o =>
  cases o with
  | none=>rw[q] at h;cases h
  | some j =>
   rw[q] at h
   refine⟨j,rfl,?_⟩
   have h:(σ[j]?).bind id=some v:=by simpa using h
   cases z:σ[j]? with
   | none=>rw[z] at h;cases h
   | some y=>rw[z] at h;have h:y=some v:=h;rw[h]
theorem BX{pins:List (Addr×Obj)}{σ:St}{H:Hp}{s₀:Shared}{C:Addr}{h₁:Heap}{t':Nat}{cl:List (Str×Addr)}{fp:List Addr}(hS:dR X N' scope mp)(I:Inv X pins σ H s₀)
  (hcl:∀x c,cl.lookup x=some c->X.env.cells.lookup x=some c∨(scope.names.lookup x=some .cell/\c=C+1/\h₁.IsCell c none/\∀z,scope.names.lookup z=some .cell->z=x)) (hcs:∀x,(x,NameKind.free)∈scope.names->(cl.lookup x).isSome=true/\∀c,cl.lookup x=some c->X.env.cells.lookup x=some c)
  (hcn:∀x,scope.names.lookup x=some .cell->cl.lookup x=some (C+1))
  (hC:C=s₀.heap.objs.size) (keep:∀b o,s₀.heap.get? b=some o->h₁.get? b=some o) (ns:∃m,h₁.Ns C m) (hf:∀b∈fp,kZ X pins H b) (hfp:∀b∈fp,b<s₀.heap.objs.size) :
  Inv (bu X N' scope cl C s₀ H fp) [] (oR mp σ) H { s₀ with heap:=h₁,toks:=t' }:=by
 obtain⟨m0,ns⟩:=ns
 have cellK:∀c v,s₀.heap.IsCell c v->h₁.IsCell c v:=λc v ⟨o,ho,hd⟩=>⟨o,keep c o ho,hd⟩
 refine⟨⟨I.ok.mod,hS.kind,I.ok.glob,I.ok.blt,Nat.le_of_eq hC.symm,λx y c h1 h2=>?_,λx hx=>?_,λx c h hx=>?_,I.ok.hd,I.ok.frames,.inl rfl,λb hb=>⟨?_,λx c h=>?_⟩,I.bs,Nat.le_trans I.ok.bsz I.sz,
   λb o e hb=>?_,λb hb hs=>?_,I.stack,I.j5⟩,rfl,I.bare,Un.kept keep,⟨m0,ns,λi x v e1 e2 e3=>?_⟩,λx c h=>?_,?_,λx c h=>?_,λp hp=>absurd hp (by intro z;cases z),I.hok.kept keep,?_⟩
 ·have old:∀z,X.env.cells.lookup z=some c->c<s₀.heap.objs.size:=λz hz=>by
   obtain⟨v,q⟩:=I.cell z c hz
   exact q.lt
  rcases hcl x c h1 with a|⟨a,ca,_,ua⟩
  ·rcases hcl y c h2 with b|⟨b,cb,_⟩
   ·exact I.ok.inj x y c a b
   ·have:=old x a
    rw[cb,hC] at this
    exact absurd this (Nat.not_lt.mpr (Nat.le_succ _))
  ·rcases hcl y c h2 with b|⟨b,cb,_⟩
   ·have:=old y b
    rw[ca,hC] at this
    exact absurd this (Nat.not_lt.mpr (Nat.le_succ _))
   ·exact(ua y b).symm
 ·rcases hS.back x hx with q|q
  ·exact Option.isSome_iff_exists.mp (hcs x q).1
  ·exact⟨_,hcn x q⟩
 ·have q:scope.names.lookup x=some .cell:=by
   have h:(scope.names.lookup x==some NameKind.cell)=true:=h
   simpa using h
  have hx:cl.lookup x=some c:=hx
  rw[hcn x q] at hx
  cases hx
  rw[hC]
  exact Nat.le_succ _
 ·intro z
  have:=hfp b hb
  rw[z] at this
  have h2:C<s₀.heap.objs.size:=this
  rw[hC] at h2
  exact Nat.lt_irrefl _ h2
 ·rcases hcl x c h with a|⟨a,ca,_⟩
  ·exact(hf b hb).2.2.2.2.1 x c a
  ·have:=hfp b hb
   rw[ca,hC]
   exact λq=>absurd (q ▸ this) (Nat.not_lt.mpr (Nat.le_succ _))
 ·rcases (hf b hb).2.2.2.1 with z|z
  ·exact I.ok.oM b o e z
  ·exact absurd (Nat.lt_of_lt_of_le (Heap.lt_size e) (Nat.le_trans I.ok.bsz z)) (Nat.lt_irrefl _)
 ·rcases List.mem_cons.mp (I.qd b hs) with z|z
  ·exact(hf b hb).2.1 z
  ·exact(hf b hb).2.2.1 z
 ·obtain⟨j,hj,hv⟩:=BW e2
  obtain⟨y,y1,y2,y3,y4⟩:=hS.LH i j hj
  have hy:y=x:=by
   have:(bu X N' scope cl C s₀ H fp).N[i]?=some y:=y1
   rw[e1] at this
   exact(Option.some.inj this).symm
  subst hy
  obtain⟨m,hn,hl⟩:=I.loc
  obtain⟨u,ru,lk⟩:=hl j y v y2 hv (y4.elim (λz=>.inr (.inl z)) λz=>.inr (.inr z))
  refine⟨u,ru,?_⟩
  rcases lk with ⟨hk,_⟩|⟨hk,c,hc,wD⟩
  ·exfalso
   have hk:X.env.scope.names.lookup y=some .local:=hk
   rcases y4 with z|z
   ·rw[hk] at z;cases z
   ·rw[hk] at z;cases z
  ·obtain⟨c',hc'⟩:=Option.isSome_iff_exists.mp (hcs y y3).1
   have:c'=c:=by
    have q:=(hcs y y3).2 c' hc'
    rw[hc] at q
    exact(Option.some.inj q).symm
   subst this
   exact .inr ⟨hS.seen y y3,c',hc',cellK _ _ wD⟩
 ·rcases hcl x c h with a|⟨_,_,a,_⟩
  ·obtain⟨v,hv⟩:=I.cell x c a
   exact⟨v,cellK _ _ hv⟩
  ·exact⟨none,a⟩
 ·show H C=none
  rw[hC]
  exact I.hok.fresh (Nat.le_refl _)
 ·rcases hcl x c h with a|⟨_,a,_⟩
  ·exact I.df x c a
  ·rw[a,hC];exact I.hok.fresh (Nat.le_succ _)
 ·show(oR mp σ).length=N'.length
  unfold oR
  rw[List.length_map,hS.len]
theorem pG{pins:List (Addr×Obj)}{s₂:Shared}{σ:St}{H₂:Hp}{it:Addr}{fp:List Addr}{tn:Nat->Heap->Prop}{J:It}{cl:List (Str×Addr)}{Q:VK}{RR:Value->Addr->Result->Shared->Prop}{E:Value->Shared->Prop}
  (hS:dR X N' scope mp) (eo:X.calm=true) (hg:∀cl C s₀ H₀ ex,PG (bu X N' scope cl C s₀ H₀ ex) tg g) (hc:∀cl C s₀ H₀ ex,ji (bu X N' scope cl C s₀ H₀ ex) ifs tc) (he:∀cl C s₀ H₀ ex,PE (bu X N' scope cl C s₀ H₀ ex) elt te)
  (hcl:∀x c,cl.lookup x=some c->X.env.cells.lookup x=some c) (hcs:∀x,(x,NameKind.free)∈scope.names->(cl.lookup x).isSome=true)
  (I:Inv X pins σ H₂ s₂) (T:Turn X.prog X.w X.K tg J fp it tn) (st:tn 0 s₂.heap) (hf:∀b∈fp,kZ X pins H₂ b) (hq:wZ J mp g tc te σ H₂ Q)
  (fin:∀p C s' H',Inv X pins σ H' s'->kZ X pins H' C->(∃m,s'.heap.Ns C m)->Q (.ref p) H'->RR (.ref p) C (.ok .next) s') :
  wpAny (model X.prog X.w) X.A (newList []) (λacc s₃=>wpAny (model X.prog X.w) X.A (newFunctionEnv scope X.env.globals cl [] X.env.qual none .none (some X.env)) (λLI s₄ =>
   codeAny (model X.prog X.w) X.A (.compStart (.ListComp elt [⟨tg,iter,ifs,0⟩] scope pos) 0 (.ref it) acc { LI with scope:=relabel scope X.env }) (RR acc LI.locals) s₄) E s₃) E s₂:=by
 refine wpAny_newObj_type (sS ?_)
 dsimp only
 have I₃:Inv X pins σ (upd H₂ s₂.heap.objs.size (.lst [])) { s₂ with heap:=s₂.heap.push { cls:=.type "list",dict:=none,data:=.seq ([]:List Value).toArray } } :=
  I.yh (t':=s₂.toks) (ys:=[]) .nil (Nat.zero_le _)
 generalize hH2:s₂.heap.push { cls:=.type "list",dict:=none,data:=.seq ([]:List Value).toArray }=H2 at I₃ ⊢
 obtain⟨h₁,hh1⟩:∃h₁,h₁=pushCells (H2.push { cls:=.type "dict",data:=.dict #[] }) scope.names:=⟨_,rfl⟩
 rw[← hh1]
 have hns₁:h₁.Ns H2.objs.size (λ_=>none):=by rw[hh1];exact(Heap.Ns.new H2 (.type "dict")).keeps (pushCells_keeps _ _)
 obtain⟨cl',yG⟩:∃cl',cl'=cellsFrom (H2.objs.size+1) scope.names cl:=⟨_,rfl⟩
 rw[← yG]
 have Jr:=sR scope.names (H2.objs.size+1) (H2.push { cls:=.type "dict",data:=.dict #[] }) cl hS.cells hS.nd
 have fc:∀x,(x,NameKind.free)∈scope.names->scope.names.lookup x≠some .cell:=λx hx q=>by
  have nd:=hS.nd
  have m2:=PySem.mem_of_lookup q
  have key:∀l:List (Str×NameKind),(l.map (·.1)).Nodup->(x,NameKind.free)∈l->(x,NameKind.cell)∈l->False:=by
   intro l
   induction l with
   | nil=>intro _ h;cases h
   | cons a l ih =>
    intro nd h1 h2
    have nd':=List.nodup_cons.mp (by simpa using nd:(a.1::l.map (·.1)).Nodup)
    rcases List.mem_cons.mp h1 with e1|h1
    ·rcases List.mem_cons.mp h2 with e2|h2
     ·rw[← e1] at e2;cases e2
     ·exact nd'.1 (List.mem_map.mpr ⟨_,h2,by rw[← e1]⟩)
    ·rcases List.mem_cons.mp h2 with e2|h2
     ·exact nd'.1 (List.mem_map.mpr ⟨_,h1,by rw[← e2]⟩)
     ·exact ih nd'.2 h1 h2
  exact key _ nd hx m2
 have LJ:∀x c,cl'.lookup x=some c->X.env.cells.lookup x=some c∨(scope.names.lookup x=some .cell/\c=H2.objs.size+1/\h₁.IsCell c none/\∀z,scope.names.lookup z=some .cell->z=x):=λx c h=>by
  cases Jr with
  | no _ e1 _=>rw[yG.trans e1] at h;exact .inl (hcl x c h)
  | one y h0 hy e1 e2 =>
   rw[yG.trans e1,List.lookup_cons] at h
   cases hb:x==y with
   | true =>
    rw[hb] at h
    have hxy:x=y:=eq_of_beq hb
    have h:some (H2.objs.size+1)=some c:=h
    cases h
    subst hxy
    refine .inr ⟨hy,rfl,?_,λz hz=>h0 z hz⟩
    rw[hh1.trans e2,← Heap.size_push H2 { cls:=.type "dict",data:=.dict #[] }]
    exact⟨_,Heap.get?_push_size _ rfl,rfl⟩
   | false=>rw[hb] at h;exact .inl (hcl x c h)
 have Ni:∀x,(x,NameKind.free)∈scope.names->(cl'.lookup x).isSome=true/\∀c,cl'.lookup x=some c->X.env.cells.lookup x=some c:=λx hx=>by
  have el:cl'.lookup x=cl.lookup x:=by
   cases Jr with
   | no _ e1 _=>rw[yG.trans e1]
   | one y h0 hy e1 e2 =>
    rw[yG.trans e1,List.lookup_cons]
    cases hb:x==y with
    | true=>exact absurd ((eq_of_beq hb) ▸ hy) (fc x hx)
    | false=>rfl
  rw[el]
  exact⟨hcs x hx,λc hc=>hcl x c hc⟩
 have Nj:∀x,scope.names.lookup x=some .cell->cl'.lookup x=some (H2.objs.size+1):=λx hx=>by
  cases Jr with
  | no h0 _ _=>exact absurd hx (h0 x)
  | one y h0 hy e1 e2 =>
   rw[yG.trans e1,h0 x hx,List.lookup_cons]
   simp
 have fresh:H₂ s₂.heap.objs.size=none:=I.hok.fresh (Nat.le_refl _)
 have fpl:∀b∈fp,b<s₂.heap.objs.size:=λb hb=>by
  obtain⟨o,ho,_⟩:=T.obj _ _ st b hb
  exact Heap.lt_size ho
 have Js:s₂.heap.objs.size≤H2.objs.size:=by rw[← hH2,Heap.size_push];exact Nat.le_succ _
 have Nk:∀b o,s₂.heap.get? b=some o->H2.get? b=some o:=λb o e=>by rw[← hH2];exact Heap.get?_push_of_some _ e
 have old:∀b o,H2.get? b=some o->h₁.get? b=some o:=λb o e=>by rw[hh1];exact pushCells_keeps _ _ _ _ (Heap.get?_push_of_some _ e)
 have hf3:∀b∈fp,kZ X pins (upd H₂ s₂.heap.objs.size (.lst [])) b:=λb hb=>⟨by rw[aI (Nat.ne_of_lt (fpl b hb))];exact(hf b hb).1,(hf b hb).2⟩
 have I₄:=BX (t':=s₂.toks) (N':=N') (C:=H2.objs.size) (h₁:=h₁) hS I₃ LJ Ni Nj rfl old ⟨_,hns₁⟩ hf3 λb hb=>Nat.lt_of_lt_of_le (fpl b hb) Js
 have st4:tn 0 h₁:=T.keep _ _ _ st λb hb o e=>old b o (Nk b o e)
 obtain⟨W,⟨m0,w0⟩,turn⟩:=hq s₂.heap.objs.size fresh
 generalize hX':bu X N' scope cl' H2.objs.size { s₂ with heap:=H2 } (upd H₂ s₂.heap.objs.size (.lst [])) fp=X' at I₄
 have hg':PG X' tg g:=hX' ▸ hg _ _ _ _ _
 have hc':ji X' ifs tc:=hX' ▸ hc _ _ _ _ _
 have he':PE X' elt te:=hX' ▸ he _ _ _ _ _
 have e1:X'.prog=X.prog:=by rw[← hX'];rfl
 have e2:X'.w=X.w:=by rw[← hX'];rfl
 have e3:X'.K=X.K:=by rw[← hX'];rfl
 have e4:X'.calm=true:=by rw[← hX'];exact eo
 have e5:X'.A=X.A:=by rw[← hX'];rfl
 have e6:X'.env=compEnvC scope cl' H2.objs.size X.env:=by rw[← hX'];rfl
 have e7:X'.xe=λ_ _=>False:=by rw[← hX'];rfl
 have uQ:∀{H':Hp},(∀b∈fp,H' b=none)->∀b∈fp,kZ X' [] H' b:=λ{H'} hn b hb=>by
  refine⟨hn b hb,?_,?_,?_,λx c h=>?_,λp hp=>?_⟩
  ·rw[e6];exact Nat.ne_of_lt (Nat.lt_of_lt_of_le (fpl b hb) Js)
  ·rw[← hX']
   intro hs
   rcases List.mem_cons.mp (I.qd b hs) with z|z
   ·exact(hf b hb).2.1 z
   ·exact(hf b hb).2.2.1 z
  ·rw[← hX'];exact .inl hb
  ·rw[e6] at h
   rcases LJ x c h with a|⟨_,a,_⟩
   ·exact(hf b hb).2.2.2.2.1 x c a
   ·rw[a]
    have q1:=Nat.lt_of_lt_of_le (fpl b hb) Js
    exact λq=>absurd (q ▸ q1) (Nat.not_lt.mpr (Nat.le_succ _))
  ·rw[← hX'] at hp;cases hp
 have loop:∀s₃:Shared,Inv X' [] (oR mp σ) (upd H₂ s₂.heap.objs.size (.lst [])) s₃->tn 0 s₃.heap ->
   codeAny (model X.prog X.w) X.A (.compLoop (.ListComp elt [⟨tg,iter,ifs,0⟩] scope pos) 0 (.ref it) (.ref s₂.heap.objs.size) (compEnvC scope cl' H2.objs.size X.env)) (RR (.ref s₂.heap.objs.size) H2.objs.size) s₃:=by
  intro s₃ I₃' st3
  refine qy (λn s'=>∃i σ' H',Inv X' [] σ' H' s'/\tn i s'.heap/\(∀b∈fp,H' b=none)/\W i n σ' H') ?_ m0 ⟨0,_,_,I₃',st3,λb hb=>(hf3 b hb).1,w0⟩
  rintro n s4 ⟨i,σ4,H4,I4,st4,fr4,w4⟩
  rcases turn i n σ4 H4 w4 with ⟨stop,qn⟩|⟨go,N,hN,step⟩
  ·have q:=T.done X' e1 e2 e3 e4 i [] s4 σ4 H4 (λ_ _=>False) I4 (uQ fr4) st4 stop
   rw[e5] at q
   refine thn q λr s5 ao=>?_
   obtain⟨hr,I5⟩:=ao
   subst hr
   have I6:Inv X pins σ H4 s5:=by
    subst hX'
    exact I₃.Hy (ch:=fp) I5.os I5.base I5.hok I5.bare λb hb=>⟨(hf3 b hb).2.2.2.1,(hf3 b hb).2.1,(hf3 b hb).2.2.2.2.1,(hf3 b hb).2.2.2.2.2⟩
   have hC:H4 H2.objs.size=none:=by
    have:=I5.free
    rw[e6] at this
    exact this
   have hns:∃m,s5.heap.Ns H2.objs.size m:=by
    obtain⟨m,hm,_⟩:=I5.loc
    rw[e6] at hm
    exact⟨m,hm⟩
   exact fin _ _ s5 H4 I6 (I₃.xY (Nat.le_refl _) hC) hns qn
  ·have q:=T.item X' e1 e2 e3 e4 i [] s4 σ4 H4 (λ_ _=>False) I4 (uQ fr4) st4 go
   rw[e5] at q
   refine thn q λr s5 dt=>?_
   obtain⟨u,hr,h5⟩:=dt
   subst hr
   refine thn h5 λ_ s6 sd=>?_
   obtain⟨x,H6,I6,r6,y6,st6,fr6⟩:=sd
   have I6':=I6.pinned (uQ fr6) (T.obj _ _ st6)
   have g6:=hg' _ s6 σ4 H6 x u _ I6' r6 (step x H6 y6)
   rw[e1,e2,e5,e6,e7] at g6
   refine thn g6 λ_ s7 LK=>?_
   obtain⟨σ7,H7,I7,q7⟩:=LK
   have c7:=hc' _ s7 σ7 H7 _ I7 q7
   rw[e1,e2,e5,e6,e7] at c7
   refine thn c7 λok s8 LL=>?_
   obtain⟨H8,I8,q8⟩:=LL
   have again:∀{s9:Shared}{σ9:St}{H9:Hp},Inv X' ([]++mJ fp s6.heap) σ9 H9 s9->N σ9 H9->∃m,m<n/\∃i σ' H',Inv X' [] σ' H' s9/\tn i s9.heap/\(∀b∈fp,H' b=none)/\W i m σ' H':=λ{s9 σ9 H9} I9 n9=>by
    obtain⟨m',hm,w9⟩:=hN σ9 H9 n9
    refine⟨m',hm,i+1,σ9,H9,I9.j7,T.keep _ _ _ st6 λb hb o e=>(I9.pin (b,o) (List.mem_append_right _ (List.mem_append_right _ (gx hb e)))).1,λb hb=>?_,w9⟩
    obtain⟨o,e,d⟩:=T.obj _ _ st6 b hb
    exact(I9.pin (b,o) (List.mem_append_right _ (List.mem_append_right _ (gx hb e)))).2.1
   cases ok with
   | false =>
    rw[if_neg Bool.false_ne_true] at q8 ⊢
    exact again I8 q8
   | true =>
    rw[if_pos rfl] at q8 ⊢
    have l8:=he' _ s8 σ7 H8 _ I8 q8
    rw[e1,e2,e5,e6,e7] at l8
    refine thn l8 λy s9 LM=>?_
    obtain⟨z,H9,I9,r9,q9⟩:=LM
    have a9:=(ph (X:=X')) _ s9 σ7 H9 (.ref s₂.heap.objs.size) [z] (.ref s₂.heap.objs.size) [y] _ I9 rfl (.cons r9 .nil) q9
    rw[e1,e2,e5,e7] at a9
    refine thn a9 λ_ s10 ⟨_,H10,I10,_,q10⟩=>again I10 q10
 refine codeAny_compStart_list (loop _ I₄ st4) ?_
 exact T.self X.A 0 _ _ _ st4 (loop _ I₄ st4)
theorem FZ{wi:TI}(hx:X.xe=λ_ _=>False)(hS:dR X N' scope mp)(eo:X.calm=true)(hi:PI X tg iter wi)(hg:∀cl C s₀ H₀ ex,PG (bu X N' scope cl C s₀ H₀ ex) tg g)(hc:∀cl C s₀ H₀ ex,ji (bu X N' scope cl C s₀ H₀ ex) ifs tc)
  (he:∀cl C s₀ H₀ ex,PE (bu X N' scope cl C s₀ H₀ ex) elt te) (hs:∀x,foldedSetIterable iter X.env x=pure x:=by intro _;rfl) :
  PE X (.ListComp elt [⟨tg,iter,ifs,0⟩] scope pos) (λσ H Q=>wi σ H λJ H1=>wZ J mp g tc te σ H1 Q):=by
 intro pins s σ H Q I h
 have hfr:∀y∈scope.names,y.2=.free->∃c,X.env.cells.lookup y.1=some c:=λy hy hk=>I.ok.has y.1 (hS.free y hy hk)
 obtain⟨cl,hcl,h1,h2⟩:=m4 hfr
 rw[eval_ListComp]
 refine wpAny_comprehension_free (use:=none) rfl hs hcl hS.kind hS.loc (thn (hi pins s σ H _ I h) λv s1 q1=>thn q1 λitv s2 ao=>?_)
 obtain⟨it,fp,tn,J,H2,e,I2,T,st2,f2,q2⟩:=ao
 subst e
 refine pG (RR:=λacc C=>compPost (model X.prog X.w) X.A X.xe none (EP X pins σ Q) acc C) hS eo hg hc he h1 h2 I2 T st2 f2 q2 λp C s' H' I' fp' ns q'=>?_
 obtain⟨m,hm⟩:=ns
 refine⟨m,hm,λh' sb=>⟨.ref p,H',?_,rfl,q'⟩⟩
 exact I'.turned (t':=s'.toks) (λb o hb e=>(sb.2 b hb).trans e) fp'.1 fp'.2.1 fp'.2.2.2.1 fp'.2.2.2.2.1 fp'.2.2.2.2.2
theorem sT{wi:TI}{i:Nat}{y:Str}{py BY:Pos}(hx:X.xe=λ_ _=>False)(hS:dR X N' scope mp)(eo:X.calm=true)(hi:PI X tg iter wi)(hg:∀cl C s₀ H₀ ex,PG (bu X N' scope cl C s₀ H₀ ex) tg g)
  (hc:∀cl C s₀ H₀ ex,ji (bu X N' scope cl C s₀ H₀ ex) ifs tc) (he:∀cl C s₀ H₀ ex,PE (bu X N' scope cl C s₀ H₀ ex) elt te) (hN:X.N.Nodup) (hiN:X.N[i]?=some y) (hl:Loc X.env.scope y)
  (hsw:swapsWith (.ListComp elt [⟨tg,iter,ifs,0⟩] scope pos) (some (.Name y py)) BY.line X.env=pure true) (hs:∀x,foldedSetIterable iter X.env x=pure x:=by intro _;rfl)
  (hf:X.fn y=true∨X.env.scope.names.lookup y=some .local:=by first|exact .inl rfl|exact .inr rfl|assumption) :
  PS X (.Assign [.Name y py] (.ListComp elt [⟨tg,iter,ifs,0⟩] scope pos) BY) (IB (λσ H Q=>wi σ H λJ H1=>wZ J mp g tc te σ H1 Q) (AO i)):=by
 intro pins s σ H D I h
 have hfr:∀y∈scope.names,y.2=.free->∃c,X.env.cells.lookup y.1=some c:=λy hy hk=>I.ok.has y.1 (hS.free y hy hk)
 obtain⟨cl,hcl,h1,h2⟩:=m4 hfr
 rw[exec_Assign_Name_used _ _ _ _ hsw]
 refine wpAny_bind (wpAny_standAt (wpAny_bind ?_))
 show wpAny _ X.A (do let _ ← comprehension (.ListComp elt [⟨tg,iter,ifs,0⟩] scope pos) scope X.env _ (newList []) false (eval iter X.env) (some (assign (.Name y py) X.env))) _ _ s
 refine wpAny_bind (wpAny_mono (wpAny_comprehension_free (use:=some (assign (.Name y py) X.env)) (Q:=λ_ s'=>SP X pins D .next s') rfl hs hcl hS.kind hS.loc
  (thn (hi pins s σ H _ I h) λv s1 q1=>thn q1 λitv s2 ⟨it,fp,tn,J,H2,e,I2,T,st2,f2,q2⟩=>?_)) (λ_ s' hq=>wpAny_pure (wpAny_pure hq)) λ_ _ e=>e)
 subst e
 refine pG (RR:=λacc C=>compPost (model X.prog X.w) X.A X.xe (some (assign (.Name y py) X.env)) (λ_ s'=>SP X pins D .next s') acc C) hS eo hg hc he h1 h2 I2 T st2 f2 q2 λp C s' H' I' fp' ns q'=>?_
 obtain⟨m,hm⟩:=ns
 obtain⟨oC,es,ep,hoC,rC⟩:=id hm
 show wpAny _ X.A (assign (.Name y py) X.env (.ref p)) _ _ _
 refine wpAny_assign_Name (o8 I' hN hiN hl (v:=.ref p) rfl (λs'' I'' sb=>?_) hf)
 obtain⟨a,sb,ha⟩:=sb
 have hCa:C≠a:=by
  rcases ha with rfl|ha
  ·exact fp'.2.1
  ·exact λz=>fp'.2.2.2.2.1 y a ha z.symm
 refine⟨m,⟨oC,es,ep,(sb.2 C hCa).trans hoC,rC⟩,λh3 sb3=>⟨_,H',?_,q'⟩⟩
 exact I''.turned (t':=s''.toks) (λb o hb e=>(sb3.2 b hb).trans e) fp'.1 fp'.2.1 fp'.2.2.2.1 fp'.2.2.2.2.1 fp'.2.2.2.2.2
end
end L2
namespace Fw
open PySem PySem.Spec PyProof.Rows L2
section
variable{K:PySem.W.Frag}{F F' F1 F2 H H' H1 H2:Hp}{α α' α1 α2:List Addr}{μ μ':aa}{e:Slots}{σ:L2.St}
theorem sU{mp:List (Option Nat)}{i:Nat}{x:SV}(h:slot (ini mp e) i=some x):∃j,mp[i]?=some (some j)/\slot e j=some x:=by
 unfold slot ini at h
 rw[List.getElem?_map] at h
 cases q:mp[i]? with
 | none=>rw[q] at h;cases h
 | some o =>
  cases o with
  | none=>rw[q] at h;cases h
  | some j =>
   rw[q] at h
   refine⟨j,rfl,?_⟩
   simp only[Option.map_some,Option.bind_some] at h
   cases z:slot e j with
   | none=>rw[z] at h;cases h
   | some y=>rw[z] at h;cases h;rfl
theorem Sim.ini(S:Sim K F α e μ σ H)(mp:List (Option Nat)):Sim K F α (Fw.ini mp e) μ (oR mp σ) H:=by
 refine⟨S.st,λi x h=>?_,by unfold Fw.ini oR;rw[List.length_map,List.length_map]⟩
 obtain⟨j,hj,hx⟩:=sU h
 obtain⟨v,hv,ok⟩:=S.sl j x hx
 refine⟨v,?_,ok⟩
 unfold oR
 rw[List.getElem?_map,hj]
 simp[hv]
theorem bG.Jt{p:Addr}{o:HO}(S:bG K F α μ H)(h1:F p=none)(h2:p∉α)(n:NT o:=by intro _ h;cases h):bG K F α μ (upd H p o):=by
 have na:∀{k:Nat}{a:Addr},α[k]?=some a->a≠p:=λ{k a} h q=>h2 (by rw[← q];exact List.mem_of_getElem? h)
 refine⟨λa z hz=>?_,S.len,S.nd,λk a g=>?_,λk b u a g1 g2=>?_,S.tps.upd n⟩
 ·rw[aI (λq=>by subst q;rw[h1] at hz;cases hz)];exact S.ext a z hz
 ·rw[aI (na g)];exact S.there k a g
 ·obtain⟨c1,c2⟩:=S.cell k b u a g1 g2
  refine⟨λhb=>⟨(c1 hb).1,?_⟩,c2⟩
  have d2:=(c1 hb).2
  cases u with
  | lst ts=>obtain⟨vs,w1,w2⟩:=d2;exact⟨vs,by rw[aI (na g2)];exact w1,w2⟩
  | dct ts=>obtain⟨vs,w1,w2⟩:=d2;exact⟨vs,by rw[aI (na g2)];exact w1,w2⟩
  | dtt fz ts=>exact⟨d2.1,(aI (na g2)).trans d2.2⟩
  | _=>exact d2.elim
theorem Ex.Jt{p:Addr}{o:HO}(x:Ex F α H F' α' H')(h:H p=none):Ex F α H F' α' (upd H' p o):=⟨x.same,x.pre,λb z h1 h2 h3=>by
 obtain⟨g1,g2,g3⟩:=x.fr b z h1 h2 h3
 exact⟨by rw[aI (λq=>by subst q;rw[h] at h1;cases h1)];exact g1,g2,g3⟩⟩
theorem Sim.back{e':Slots}(S:Sim K F α e' μ σ H)(hl:e.length=e'.length)(h:∀j x,slot e j=some x->slot e' j=some x):Sim K F α e μ σ H :=
 ⟨S.st,λi x g=>S.sl i x (h i x g),by rw[hl];exact S.len⟩
end
section
variable{X:Cx}{elt iter tg:Expr}{ifs:List Expr}{scope:Scope}{pos:Pos}{N':List Str}{mp:List (Option Nat)}{di:DI}{b:BD}{dc d:D}
def qA(mp:List (Option Nat))(b:BD):Prop:=∀t e e1,b t (ini mp e)=some e1->(ini mp e).length=e1.length/\∀j x,slot (ini mp e) j=some x->slot e1 j=some x
theorem slot_set_ne{e:Slots}{i j:Nat}{x:SV}(h:i≠j):slot (e.set i (some x)) j=slot e j:=by
 unfold slot
 rw[List.getElem?_set_ne h]
theorem eu{i:Nat}(h:mp[i]?=some none):qA mp (aS i):=λt e e1 hb=>by
 cases hb
 refine⟨by rw[List.length_set],λj x hx=>?_⟩
 obtain⟨k,hk,_⟩:=sU hx
 rw[slot_set_ne (λq=>by subst q;rw[h] at hk;cases hk)];exact hx
theorem i5{X':Cx}:ji X' [] (tDT X' (dC (.bl true))):=λpins s σ H Q I ao=>by
 obtain⟨F,α,e,μ,S,h⟩:=ao
 obtain⟨b,hb,h⟩:=h
 cases hb
 exact BU pins s σ H Q I (h H F α Ex.refl S)
theorem yH{X':Cx}{c:Expr}(h:CT X' c dc):ji X' [c] (tDT X' dc):=BV h
def oD(K:PySem.W.Frag)(d:D):TE:=λσ H Q=>∃F α e μ x μ',Sim K F α e μ σ H/\d e μ=.ok x μ'/\BN K F α H e σ Q x μ'
def oDT(K:PySem.W.Frag)(d:D):TT:=λσ H Q=>∃F α e μ b μ',Sim K F α e μ σ H/\d e μ=.ok (.val (.bl b)) μ' /\
 ∀H' F' α',Ex F α H F' α' H'->Sim K F' α' e μ' σ H'->Q b H'
theorem HF{X':Cx}{σ:L2.St}{H:Hp}{Q:VK}(h:oD X'.K d σ H Q):tD X' d σ H Q:=by
 obtain⟨F,α,e,μ,x,μ',S,h,p⟩:=h
 exact⟨F,α,e,μ,S,by rw[h];exact p⟩
theorem BZ{X':Cx}{σ:L2.St}{H:Hp}{Q:Bool->Hp->Prop}(h:oDT X'.K d σ H Q):tDT X' d σ H Q:=by
 obtain⟨F,α,e,μ,b,μ',S,h,p⟩:=h
 exact⟨F,α,e,μ,S,by rw[h];exact⟨b,rfl,p⟩⟩
inductive CIv(K:PySem.W.Frag)(same:aa->Prop)(items:List T)(b:BD)(dc d:D)(e0:Slots)(us:List T)(μ':aa)(F1:Hp)(α1:List Addr)(H1:Hp)(p:Addr)(i:Nat)(σ':L2.St)(Hc:Hp):Prop
 | mk (F2:Hp) (α2:List Addr) (μ3:aa) (done rest:List T) (vs:List V) (x2:Ex F1 α1 H1 F2 α2 Hc) (S2:Sim K F2 α2 e0 μ3 σ' Hc) (n1:F2 p=none) (n2:p∉α2) (hv:Hc p=some (.lst vs)) (hr:aD K F2 done vs) (hdl:done.length≤i) (hL:dy same b dc d e0 (items.drop i) μ3=.ok rest μ') (hu:us=done++rest)
theorem pH{σ:L2.St}{H:Hp}{Q:VK}(hb:qA mp b)(h:tF X (dj di mp b dc d) σ H Q):tDI X di σ H λJ H1=>wZ J mp (tBd X.K b) (oDT X.K dc) (oD X.K d) σ H1 Q:=by
 obtain⟨F,α,e,μ,S,h⟩:=h
 refine⟨F,α,e,μ,S,(R.wp_bind h).mono (λW μ1 h J H1 F1 α1 x1 S1 ok=>?_) λ_ _ h=>h⟩
 cases hL:(dy W.same b dc d (ini mp e) W.items μ1).calm with
 | err c μ'=>cases q:dy W.same b dc d (ini mp e) W.items μ1<;>rw[q] at hL<;>cases hL
 | bad=>rw[hL] at h;exact h.elim
 | ok us μ' =>
 rw[hL] at h
 have hL:=R.calm_eq hL
 rw[R.aQ] at h
 by_cases hz:W.items.length≤szL
 ·rw[if_pos hz] at h
  obtain⟨t,et,post⟩:=h
  cases et
  intro p hp
  refine⟨λi m σ' Hc=>m=W.items.length-i/\i≤W.items.length/\CIv X.K W.same W.items b dc d (ini mp e) us μ' F1 α1 H1 p i σ' Hc,
   ⟨_,rfl,Nat.zero_le _,.mk F1 α1 μ1 [] us [] (Ex.lay hp) ((S1.ini mp).of (aN.refl _) (List.prefix_refl _) (S1.st.lay hp)) (S1.st.ext.free hp) (ck S1.st hp) aH aD.sL (Nat.zero_le _) hL rfl⟩,?_⟩
  rintro i m σ2 H2 ⟨rfl,hi',hC⟩
  obtain⟨F2,α2,μ3,done,rest,vs,x2,S2,n1,n2,hv,hr,hdl,hL,hu⟩:=hC
  by_cases hlt:i<W.items.length
  ·rw[List.drop_eq_getElem_cons hlt] at hL
   unfold dy at hL
   by_cases hs:W.same μ3
   ·rw[if_pos hs] at hL
    obtain⟨g1,g2⟩:=ok F2 α2 μ3 H2 x2.same x2.pre S2.st hs
    obtain⟨go,yl⟩:=g1 i W.items[i] (by simp[hlt])
    cases hb':b W.items[i] (ini mp e) with
    | none=>simp only[hb'] at hL;cases hL
    | some e3 =>
     simp only[hb'] at hL
     obtain⟨y0,μ4,hy,hL⟩:=R.aJ hL
     have hy:=R.calm_eq hy
     obtain⟨k,μ5,hk,hK⟩:=R.aJ hL
     obtain⟨hk1,hk2⟩:=R.jE hk
     subst hk2
     have ek:=va hk1
     rw[ek] at hy
     clear hL hk hk1 ek
     obtain⟨hl3,hb3⟩:=hb _ _ _ hb'
     refine .inr ⟨go,CIv X.K W.same W.items b dc d (ini mp e) us μ' F1 α1 H1 p (i+1),λσ' H' q=>⟨W.items.length-(i+1),by lia,rfl,hlt,q⟩,λx H3 yy=>?_⟩
     obtain⟨F3,gr,rp⟩:=yl x H3 yy
     have x3:Ex F2 α2 H2 F3 α2 H3:=gr.ex S2.st.ext
     refine⟨F3,α2,ini mp e,μ3,W.items[i],e3,S2.grow gr,rp,hb',λσ4 S4=>?_⟩
     refine⟨F3,α2,e3,μ3,k,μ4,S4,hy,λH5 F5 α5 x5 S5=>?_⟩
     obtain⟨v3,n3,m3⟩:=x3.fr p _ hv n1 n2
     obtain⟨v5,n5,m5⟩:=x5.fr p _ v3 n3 m3
     cases k with
     | false =>
      rw[if_neg Bool.false_ne_true] at hK ⊢
      exact .mk F5 α5 μ4 done rest vs (x2.trans (x3.trans x5)) (S5.back hl3 hb3) n5 m5 v5 (aD.mono (x3.same.trans x5.same) _ _ hr) (Nat.le_succ_of_le hdl) hK hu
     | true =>
      rw[if_pos rfl] at hK ⊢
      obtain⟨y2,μ6,hd,hK⟩:=R.aJ hK
      have hd:=R.calm_eq hd
      obtain⟨u,μ7,hfz,hK⟩:=R.aJ hK
      obtain⟨us',μ8,hL2,hK⟩:=R.aJ hK
      cases hK
      refine⟨F5,α5,e3,μ4,y2,μ6,S5,hd,λv H6 F6 α6 x6 S6 o6=>?_⟩
      obtain⟨v6,n6,m6⟩:=x6.fr p _ v5 n5 m5
      obtain⟨F7,s7,ne7,S7,r7⟩:=mW S6.st o6 hfz
      have hvl:vs.length<sizeLine:=by
       have:=hr.length
       have hz':W.items.length≤sizeLine:=hz
       lia
      have n7:F7 p=none:=by rw[ne7 p m6];exact n6
      have x7:Ex F1 α1 H1 F7 α6 H6:=x2.trans (x3.trans (x5.trans (x6.trans (Ex.pB s7 ne7))))
      refine⟨p,vs,v,rfl,rfl,v6,hvl,.mk F7 α6 μ7 (done++[u]) us' (vs++[v]) (x7.Jt hp) ?_ n7 m6 aH ?_ ?_ hL2 ?_⟩
      ·exact((S6.back hl3 hb3).of s7 (List.prefix_refl _) S7).of (aN.refl _) (List.prefix_refl _) (S7.Jt n7 m6)
      ·exact(aD.mono (x3.same.trans (x5.same.trans (x6.same.trans s7))) _ _ hr).append (aD.one r7)
      ·rw[List.length_append,List.length_singleton];lia
      ·rw[hu,List.append_assoc];rfl
   ·rw[if_neg hs] at hL;cases hL
  ·have e1:i=W.items.length:=by lia
   subst e1
   rw[List.drop_length] at hL
   unfold dy at hL
   by_cases hs:W.same μ3
   ·rw[if_pos hs] at hL
    cases hL
    obtain⟨g1,g2⟩:=ok F2 α2 _ H2 x2.same x2.pre S2.st hs
    refine .inl ⟨g2,post p H2 F2 α2 (x1.trans x2) (S1.of x2.same x2.pre S2.st) (x1.was S1.st hp) n1 n2 ⟨vs,hv,?_⟩⟩
    rw[hu,List.append_nil];exact hr
   ·rw[if_neg hs] at hL;cases hL
 ·rw[if_neg hz] at h;exact h.elim
theorem pI{e:Slots}{μ μ':aa}{x:SV}(h:dj di mp b dc d e μ=.ok x μ'):∃t,x=.val t:=by
 unfold dj at h
 obtain⟨W,μ1,hW,h⟩:=R.aJ h
 obtain⟨us,μ2,hL,h⟩:=R.aJ h
 by_cases hz:W.items.length≤szL
 ·rw[if_pos hz] at h;cases h;exact⟨_,rfl⟩
 ·rw[if_neg hz] at h;cases h
theorem ji.imp{X':Cx}{cs:List Expr}{t t':TT}(h:ji X' cs t)(i:∀σ H Q,t' σ H Q->t σ H Q):ji X' cs t':=λpins s σ H Q I q=>h pins s σ H Q I (i σ H Q q)
theorem mm(hx:X.xe=λ_ _=>False)(hS:dR X N' scope mp)(eo:X.calm=true)(hb:qA mp b)(hi:CI X tg iter di)(hg:∀cl C s₀ H₀ ex,CB (bu X N' scope cl C s₀ H₀ ex) tg b)
  (hc:∀cl C s₀ H₀ ex,ji (bu X N' scope cl C s₀ H₀ ex) ifs (tDT (bu X N' scope cl C s₀ H₀ ex) dc)) (he:∀cl C s₀ H₀ ex,CE (bu X N' scope cl C s₀ H₀ ex) elt d) (hs:∀x,foldedSetIterable iter X.env x=pure x:=by intro _;rfl) :
  CF X (.ListComp elt [⟨tg,iter,ifs,0⟩] scope pos) (dj di mp b dc d) :=
 ⟨PE.imp (FZ hx hS eo hi (g:=tBd X.K b) hg (λcl C s₀ H₀ ex=>ji.imp (hc cl C s₀ H₀ ex) λσ H Q q=>BZ (X':=bu X N' scope cl C s₀ H₀ ex) q) (te:=oD X.K d) (λcl C s₀ H₀ ex=>PE.imp (he cl C s₀ H₀ ex) λσ H Q q=>HF (X':=bu X N' scope cl C s₀ H₀ ex) q) hs) λσ H Q q=>pH hb q,λ_ _ _ _ h=>pI h⟩
theorem sV(i:Nat){y:Str}{py BY:Pos}(hx:X.xe=λ_ _=>False)(hS:dR X N' scope mp)(eo:X.calm=true)(hb:qA mp b)(hi:CI X tg iter di)(hg:∀cl C s₀ H₀ ex,CB (bu X N' scope cl C s₀ H₀ ex) tg b)
  (hc:∀cl C s₀ H₀ ex,ji (bu X N' scope cl C s₀ H₀ ex) ifs (tDT (bu X N' scope cl C s₀ H₀ ex) dc)) (he:∀cl C s₀ H₀ ex,CE (bu X N' scope cl C s₀ H₀ ex) elt d) (hN:X.N.Nodup) (hiN:X.N[i]?=some y:=by rfl) (hl:Loc X.env.scope y:=by first|exact Or.inl rfl|exact Or.inr rfl)
  (hsw:swapsWith (.ListComp elt [⟨tg,iter,ifs,0⟩] scope pos) (some (.Name y py)) BY.line X.env=pure true:=by rfl) (hs:∀x,foldedSetIterable iter X.env x=pure x:=by intro _;rfl)
  (hf:X.fn y=true∨X.env.scope.names.lookup y=some .local:=by first|exact .inl rfl|exact .inr rfl|assumption) :
  PS X (.Assign [.Name y py] (.ListComp elt [⟨tg,iter,ifs,0⟩] scope pos) BY) (λD σ H=>tF X (dj di mp b dc d) σ H λv H1=>D.nx (σ.set i (some v)) H1) :=
 PS.imp (sT hx hS eo hi (g:=tBd X.K b) hg (λcl C s₀ H₀ ex=>ji.imp (hc cl C s₀ H₀ ex) λσ H Q q=>BZ (X':=bu X N' scope cl C s₀ H₀ ex) q) (te:=oD X.K d) (λcl C s₀ H₀ ex=>PE.imp (he cl C s₀ H₀ ex) λσ H Q q=>HF (X':=bu X N' scope cl C s₀ H₀ ex) q) hN hiN hl hsw hs hf) λD σ H q=>pH hb q
theorem vb{st:Stmt}{i:Nat}{da:D}(h:PS X st (λD σ H=>tF X da σ H λv H1=>D.nx (σ.set i (some v)) H1))(hv:∀e μ x μ',da e μ=.ok x μ'->∃t,x=.val t):CS X st (az i da) :=
 PS.imp h λD σ H ⟨F,α,e,μ,S,h⟩=>sO hv ⟨F,α,e,μ,S,(aU.toS h).mono (λx μ1 h v H1 F1 α1 x1 S1 o1=>h _ H1 F1 α1 x1 (S1.set o1)) λ_ _ h=>h⟩
end
def spD(K:PySem.W.Frag)(fn:FN)(n:Nat):Sp:=λvs H Q _=>vs.length=n/\∃F α μ xs r μ',bG K F α μ H/\Paired (λv x=>cU K F α v x) vs xs/\fn xs μ=.ok r μ' /\
 ∀v H' F' α',Ex F α H F' α' H'->bG K F' α' μ' H'->cU K F' α' v r->Q v H'
section
variable{X:Cx}{f:Addr}{fd:FuncData}{ps:List Str}{x:Str}{p pos:Pos}{e:Expr}{es:List Expr}{ds:List D}{fn:FN}{k:Nat}
theorem yI{σ:L2.St}{H:Hp}{Q:VK}(hl:ds.length=ps.length)(h:tD X (ax (cal fn) ds) σ H Q):HB (spD X.K fn ps.length) [] E0 (tDA X ds) σ H Q:=by
 obtain⟨F,α,e,μ,S,h⟩:=h
 refine⟨F,α,e,μ,S,(dz (R.wp_bind h)).mono (λxs μ1 ao vs H1 F1 α1 x1 S1 o1=>?_) λ_ _ h=>h⟩
 obtain⟨hn,h⟩:=ao
 show spD X.K fn ps.length (vs++[]) H1 Q E0
 rw[List.append_nil]
 have h:((fn xs μ1).calm).wp (BN X.K F α H e σ Q) (bX X F α H e):=h
 cases q:fn xs μ1 with
 | err c μ2=>rw[q] at h;exact h.elim
 | bad=>rw[q] at h;exact h.elim
 | ok r μ2 =>
  rw[q] at h
  exact⟨by rw[o1.length,hn,hl],F1,α1,μ1,xs,r,μ2,S1.st,o1,q,λv H2 F2 α2 x2 S2 o2=>h v H2 F2 α2 (x1.trans x2) (S1.of x2.same x2.pre S2) o2⟩
theorem F8(G:gb X.prog X.w X.K X.mg X.base CX0 k f fd ps (spD X.K fn ps.length))(hr:dP k X.A)(hm:X.mg x=some (.ref f))(hk:PySem.W.keepIn X.K (.ref f)=true)(hb:Binds X.K fd ps [])(ha:CA X (e::es) ds)
  (hl:ds.length=ps.length:=by rfl) (hg:Gl X x:=by rfl) (hdb:(x==("__debug__":Str))=false:=by decide) (he:starEach (e::es) X.env=(false,eval e X.env)::starEach es X.env:=by rfl) (hpl:(backTo pos (starEach es X.env)).any (·.1)=false:=by rfl) :
  CE X (.Call (.Name x p) (e::es) [] pos) (ax (cal fn) ds):=PE.imp (E5 G hr hg hm hk hb .nil Lp ha hdb he hpl) λσ H Q q=>yI hl q
theorem qB{id:String}{r:List V->Hp->VK->Prop}{g:T->Option T}{d:D}(hc:dg X (.type id) r)(hs:mY X.K r g)(hm:X.mg x=none)(hv:bootBuiltins x=some (.type id))(ha:CE X e d)(hg:Gl X x:=by rfl)(hn:x≠"__name__":=by decide)
  (hdb:(x==("__debug__":Str))=false:=by decide) (hs1:starEach [e] X.env=(false,eval e X.env)::starEach [] X.env:=by rfl) (hpl:(backTo pos (starEach [] X.env)).any (·.1)=false:=by rfl):CE X (.Call (.Name x p) [e] [] pos) (dUn g d) :=
 PE.imp (yg hc hg hm hv (ag ha au hs1) hn hdb hs1 hpl) (LD hs)
end
inductive Md where
 | V|D|K
def Md.fn:Md->Nat->DS->FN
 | .V=>fnV
 | .D=>fnD
 | .K=>fnK
section
variable{P:Program}{w:World}{K:PySem.W.Frag}{mg:Str->Option Value}{base:Heap}
theorem pJ{F H:Hp}{α:List Addr}{μ:aa}{N:List Str}{vs:List V}{xs:List SV}(S:bG K F α μ H)(o:Paired (λv x=>cU K F α v x) vs xs):Sim K F α (starts N.length xs) μ (L2.start N vs) H:=by
 unfold starts
 have hl:=o.length
 refine⟨S,λi x h=>?_,by unfold L2.start;simp[hl]⟩
 have get:∀{vs:List V}{xs:List SV}{i:Nat}{x:SV},Paired (λv x=>cU K F α v x) vs xs->xs[i]?=some x->∃v,vs[i]?=some v/\cU K F α v x:=λ{vs}=>by
  intro xs i x o
  induction o generalizing i with
  | nil=>intro e;simp at e
  | cons r _ ih =>
   intro e
   cases i with
   | zero=>simp at e;subst e;exact⟨_,rfl,r⟩
   | succ i =>
    obtain⟨v,h1,h2⟩:=ih (i:=i) (by simpa using e)
    exact⟨v,by simpa using h1,h2⟩
 unfold slot at h
 by_cases hi:i<xs.length
 ·rw[List.getElem?_append_left (by simpa using hi),List.getElem?_map] at h
  cases q:xs[i]? with
  | none=>rw[q] at h;cases h
  | some y =>
   rw[q] at h
   cases h
   obtain⟨v,h1,h2⟩:=get o q
   refine⟨v,?_,h2⟩
   unfold L2.start
   rw[List.getElem?_append_left (by simpa [hl] using hi),List.getElem?_map,h1]
   rfl
 ·rw[List.getElem?_append_right (by simpa using hi),List.getElem?_replicate] at h
  split at h<;>rename_i q
  ·split at q<;>cases q
  ·cases h
theorem ey{x qual:Str}{st:Stmt}{f:Addr}{fd:FuncData}{N ps:List Str}{k:Nat}{d:DS}(md:Md)(F:Fun K x qual st f fd)(S:aY N ps (aw st))
  (hb:∀(cdv:Value) (A:Around) (outer:List Env) (s:Shared) (H:Hp) (E:XK),dP k (A.deeper (envOfC qual (aw st) s.heap.objs.size f cdv))->CSs (j8 CX0 P w K mg base N qual (aw st) f cdv A outer s H E).nox (dZ st) d) :
  gb P w K mg base CX0 (k+1) f fd ps (spD K (md.fn N.length d) ps.length):=by
 refine F.ok S (λvs H Q E h=>h.1) λcdv A outer s H vs Q E hr h=>⟨_,hb cdv A outer s H E hr,?_⟩
 obtain⟨hl,F0,α,μ,xs,r,μ',S0,o,h,post⟩:=h
 refine⟨F0,α,_,μ,pJ S0 o,?_⟩
 have fin:∀{y:SV}{μ1:aa}{v:V}{H1 F1:Hp}{α1:List Addr},(match md with
   | .V=>ice μ.length y μ1
   | .D=>gc μ.length y μ1
   | .K=>.ok y μ1)=.ok r μ'->Ex F0 α H F1 α1 H1->bG K F1 α1 μ1 H1->cU K F1 α1 v y->Q v H1:=λ{y μ1 v H1 F1 α1} hg x1 S1 o1=>by
  cases md with
  | V =>
   obtain⟨F2,g1,g2,g3,g4⟩:=BM S0.len x1.pre S1 o1 hg
   exact post v H1 F2 α ⟨x1.same.trans g1,List.prefix_refl _,λb z h1 h2 h3=>let ⟨a1,a2,a3⟩:=x1.fr b z h1 h2 h3;⟨a1,by rw[g2 b a3];exact a2,h3⟩⟩ g3 g4
  | D =>
   obtain⟨γ,g1,g2,g3,g4⟩:=LB S0.len x1.pre S1 o1 hg
   exact post v H1 F1 γ ⟨x1.same,g1,λb z h1 h2 h3=>let ⟨a1,a2,a3⟩:=x1.fr b z h1 h2 h3;⟨a1,a2,λhm=>a3 (g2 b hm)⟩⟩ g3 g4
  | K =>
   cases hg
   exact post v H1 F1 α1 x1 S1 o1
 cases q:d (starts N.length xs) μ with
 | rt y μ1=>exact λv H1 F1 α1 x1 S1 o1=>fin (by cases md<;>(simp only[Md.fn,gB,jG,jH,q] at h;exact h)) x1 S1 o1
 | nx e1 μ1=>exact λσ1 H1 F1 α1 x1 S1=>fin (y:=.val .non) (by cases md<;>(simp only[Md.fn,gB,jG,jH,q] at h;exact h)) x1 S1.st (Rep.FU (K:=K) (F:=F1))
 | bk e1 μ1=>cases md<;>(simp only[Md.fn,gB,jG,jH,q] at h;cases h)
 | ct e1 μ1=>cases md<;>(simp only[Md.fn,gB,jG,jH,q] at h;cases h)
 | err c e1 μ1=>cases md<;>(simp only[Md.fn,gB,jG,jH,q] at h;cases h)
 | bad=>cases md<;>(simp only[Md.fn,gB,jG,jH,q] at h;cases h)
theorem mq{f:Addr}{fd:FuncData}{ps:List Str}:gb P w K mg base CX0 0 f fd ps (spD K (λ_ _=>.bad) ps.length) :=
 ⟨λvs H Q E h=>h.1,λA outer s H args us vs Q E _ _ _ _ h=>by obtain⟨_,_,_,_,_,_,_,_,_,h,_⟩:=h;cases h⟩
end
end Fw
namespace Fw
open PySem
section
variable{α:Type}{μ:List α}{a b c x:α}{l:List α}
@[simp] theorem qC:(μ++a::l)[μ.length]?=some a:=by simp
@[simp] theorem mr:(μ++l).take μ.length=μ:=by simp
end
@[simp] theorem qD(μ:aa)(k:Nat):rd μ (.cel k)=(μ[k]?).map (·.2):=(rfl)
theorem B0{μ:aa}{k:Nat}{b:Bool}{t:T}(h:μ[k]?=some (b,t)):frz (.cel k) μ=.ok t (μ.set k (false,t)):=by
 unfold frz;simp only[h]
@[simp] theorem MH(μ l:aa)(b:Bool)(t:T):frz (.cel μ.length) (μ++(b,t)::l)=.ok t (μ++(false,t)::l):=by
 rw[B0 (b:=b) (t:=t) (by simp)];simp
@[simp] theorem gE(n:Nat)(t:T)(μ:aa):ice n (.val t) μ=.ok (.val t) (μ.take n):=(rfl)
@[simp] theorem F9(μ l:aa)(b:Bool)(t:T):ice μ.length (.cel μ.length) (μ++(b,t)::l)=.ok (.val t) μ:=by unfold ice;simp
@[simp] theorem m7(μ l:aa)(b:Bool)(ts:List T):oP (.cel μ.length) (μ++(b,.lst ts)::l)=some ():=qq (b:=b) (ts:=ts) (by simp)
theorem append_at{μ:aa}{k:Nat}{ts:List T}{t:T}(h:μ[k]?=some (true,.lst ts))(hl:ts.length<szL):appendAt (.cel k) t μ=some (μ.set k (true,.lst (ts++[t]))):=by
 unfold appendAt;simp only[h];rw[if_pos hl]
theorem m8(μ l:aa)(ts:List T)(t:T)(hl:ts.length<szL):appendAt (.cel μ.length) t (μ++(true,.lst ts)::l)=some (μ++(true,.lst (ts++[t]))::l):=by
 rw[append_at (ts:=ts) (by simp) hl];simp
theorem sW{μ:aa}{k:Nat}{ts:List T}{t:T}{i:Int}(h:μ[k]?=some (true,.lst ts))(h0:0≤i)(h1:i<ts.length):setAt (.cel k) (.int i) t μ=some (μ.set k (true,.lst (ts.set i.toNat t))):=by
 unfold setAt;simp only[h];unfold ixN;rw[if_pos h0,if_pos h1];rfl
@[simp] theorem yJ(m:Nat)(xs:List SV):starts m xs=xs.map some++List.replicate (m-xs.length) none:=(rfl)
theorem fF{α:Type}{xs:List α}{i:Int}(h0:0≤i):atI xs i=xs[i.toNat]?:=by
 unfold atI ixN
 rw[if_pos h0]
 by_cases h:i<xs.length
 ·rw[if_pos h];rfl
 ·rw[if_neg h]
  exact(List.getElem?_eq_none (by lia)).symm
theorem kj{α β:Type}{xs:List α}{f:α->β}{i:Int}(h0:0≤i)(h1:i<xs.length):atI (xs.map f) i=some (f (xs[i.toNat]'(by lia))):=by
 rw[fF h0,List.getElem?_map,List.getElem?_eq_getElem (by lia)];rfl
@[simp] theorem B1{α:Type}(x:α)(xs:List α):atI (x::xs) 0=some x:=by rw[fF (by lia)];rfl
@[simp] theorem F_{α:Type}(x y:α)(xs:List α):atI (x::y::xs) 1=some y:=by rw[fF (by lia)];rfl
@[simp] theorem Ga{α:Type}(x y z:α)(xs:List α):atI (x::y::z::xs) 2=some z:=by rw[fF (by lia)];rfl
noncomputable def eJ (lo : Int) (n : Nat) : List Int := (List.range n).map fun (k : Nat) => lo + (k : Int)
theorem gm(lo:Int)(n:Nat):cj lo n=(eJ lo n).map T.int:=by
 unfold eJ
 induction n generalizing lo with
 | zero=>rfl
 | succ n ih =>
  rw[cj,ih (lo+1),List.range_succ_eq_map]
  simp only[List.map_cons,List.map_map]
  congr 1
  ·simp
  ·apply List.map_congr_left
   intro k _
   simp only[Function.comp]
   congr 1
   lia
@[simp] theorem oS(lo:Int)(n:Nat):(eJ lo n).length=n:=by simp[eJ]
theorem jJ{lo:Int}{n:Nat}{k:Int}:k∈eJ lo n↔lo≤k/\k<lo+n:=by
 unfold eJ
 rw[List.mem_map]
 constructor
 ·rintro⟨j,hj,rfl⟩
  rw[List.mem_range] at hj
  lia
 ·rintro⟨h1,h2⟩
  exact⟨(k-lo).toNat,by rw[List.mem_range];lia,by lia⟩
theorem vc{lo:Int}{n i:Nat}{k:Int}(h:(eJ lo n)[i]?=some k):i<n/\k=lo+i:=by
 unfold eJ at h
 rw[List.getElem?_map] at h
 by_cases hi:i<n
 ·rw[List.getElem?_range hi] at h
  cases h
  exact⟨hi,rfl⟩
 ·rw[List.getElem?_eq_none (by simpa using hi)] at h
  cases h
theorem B3{lo:Int}{n i:Nat}{t:T}(h:(cj lo n)[i]?=some t):i<n/\t=.int (lo+i):=by
 rw[gm,List.getElem?_map] at h
 cases q:(eJ lo n)[i]? with
 | none=>rw[q] at h;cases h
 | some k =>
  rw[q] at h
  cases h
  obtain⟨h1,rfl⟩:=vc q
  exact⟨h1,rfl⟩
theorem qE{lo:Int}{n i:Nat}{t:T}(h:(cj lo n)[i]?=some t):∃k:Int,t=.int k/\i<n/\k=lo+i:=by
 obtain⟨h1,rfl⟩:=B3 h
 exact⟨_,rfl,h1,rfl⟩
@[simp] theorem yK(lo:Int)(n:Nat):(cj lo n).length=n:=by rw[gm];simp
def RS.B4(r:RS)(J:Slots->aa->Prop)(P:RS->Prop):Prop:=match r with
 | .nx e μ=>J e μ
 | .ct e μ=>J e μ
 | .bk e μ=>P (.nx e μ)
 | r=>P r
@[simp] theorem Gb(e:Slots)(μ:aa)(J:Slots->aa->Prop)(P:RS->Prop):(RS.nx e μ).B4 J P=J e μ:=(rfl)
@[simp] theorem Gd(x:SV)(μ:aa)(J:Slots->aa->Prop)(P:RS->Prop):(RS.rt x μ).B4 J P=P (.rt x μ):=(rfl)
theorem B5{same:aa->Prop}{b:BD}{body:DS}(P:RS->Prop)(I:Nat->Slots->aa->Prop)(hs:∀i e μ,I i e μ->same μ){ts:List T}
  (step:∀i t e μ,ts[i]?=some t->I i e μ->∃e1,b t e=some e1/\(body e1 μ).B4 (I (i+1)) P) (fin:∀e μ,I ts.length e μ->P (.nx e μ)) {e:Slots}{μ:aa} (h:I 0 e μ):P (forL same b body ts e μ):=by
 have all:∀(us:List T) (i:Nat) (e:Slots) (μ:aa),ts.drop i=us->I i e μ->i≤ts.length->P (forL same b body us e μ):=by
  intro us
  induction us with
  | nil =>
   intro i e μ hd hI hi
   have hl:ts.length≤i:=by
    have:=congrArg List.length hd
    simp at this
    lia
   have e1:i=ts.length:=by lia
   subst e1
   unfold forL
   rw[if_pos (hs _ _ _ hI)]
   exact fin e μ hI
  | cons t us ih =>
   intro i e μ hd hI hi
   have hlt:i<ts.length:=by
    have:=congrArg List.length hd
    simp at this
    lia
   have hg:ts[i]?=some t:=by
    have:(ts.drop i)[0]?=some t:=by rw[hd];rfl
    rw[List.getElem?_drop] at this
    simpa using this
   have hd':ts.drop (i+1)=us:=by
    rw[← List.tail_drop,hd];rfl
   obtain⟨e1,h1,h2⟩:=step i t e μ hg hI
   unfold forL
   rw[if_pos (hs _ _ _ hI)]
   simp only[h1]
   cases q:body e1 μ with
   | nx e2 μ2=>rw[q] at h2;exact ih (i+1) e2 μ2 hd' h2 hlt
   | ct e2 μ2=>rw[q] at h2;exact ih (i+1) e2 μ2 hd' h2 hlt
   | bk e2 μ2=>rw[q] at h2;exact h2
   | rt x μ2=>rw[q] at h2;exact h2
   | err c e2 μ2=>rw[q] at h2;exact h2
   | bad=>rw[q] at h2;exact h2
 exact all ts 0 e μ rfl h (Nat.zero_le _)
theorem mv{same:aa->Prop}{b:BD}{body:DS}(I:Nat->Slots->aa->Prop)(hs:∀i e μ,I i e μ->same μ){ts:List T}
  (step:∀i t e μ,ts[i]?=some t->I i e μ->∃e1 e2 μ2,b t e=some e1/\body e1 μ=.nx e2 μ2/\I (i+1) e2 μ2) {e:Slots}{μ:aa} (h:I 0 e μ):∃e' μ',forL same b body ts e μ=.nx e' μ'/\I ts.length e' μ' :=
 B5 (P:=λr=>∃e' μ',r=.nx e' μ'/\I ts.length e' μ') I hs (λi t e μ ht hI=>by
  obtain⟨e1,e2,μ2,h1,h2,h3⟩:=step i t e μ ht hI
  exact⟨e1,h1,by rw[h2];exact h3⟩) (λe μ hI=>⟨e,μ,rfl,hI⟩) h
theorem sX{same:aa->Prop}{b:BD}{c d:D}{e:Slots}{μ:aa}(p:T->Bool)(g:T->T)(hs:same μ):∀(ts:List T),
  (∀t∈ts,∃e1,b t e=some e1/\c e1 μ=.ok (.val (.bl (p t))) μ/\(p t=true->d e1 μ=.ok (.val (g t)) μ))->dy same b c d e ts μ=.ok ((ts.filter p).map g) μ
 | [],_=>by unfold dy;rw[if_pos hs];rfl
 | t::ts,h=>by
  obtain⟨e1,h1,h2,h3⟩:=h t List.mem_cons_self
  have ih:=sX p g hs ts λu hu=>h u (List.mem_cons_of_mem _ hu)
  unfold dy
  rw[if_pos hs]
  simp only[h1,h2,R.iZ,R.aQ,du,R.bf]
  cases q:p t with
  | true=>rw[if_pos rfl,h3 q];simp[q,ih]
  | false=>rw[if_neg Bool.false_ne_true,ih];simp[q]
theorem B6{α:Type}{same:aa->Prop}{b:BD}{c d:D}{e:Slots}{μ:aa}(f:α->T)(p:α->Bool)(g:α->T)(hs:same μ)(as:List α)
  (h:∀a∈as,∃e1,b (f a) e=some e1/\c e1 μ=.ok (.val (.bl (p a))) μ/\(p a=true->d e1 μ=.ok (.val (g a)) μ)):dy same b c d e (as.map f) μ=.ok ((as.filter p).map g) μ:=by
 induction as with
 | nil=>unfold dy;rw[List.map_nil];simp only;rw[if_pos hs];rfl
 | cons n ns ih =>
  obtain⟨e1,h1,h2,h3⟩:=h n List.mem_cons_self
  have ih:=ih λu hu=>h u (List.mem_cons_of_mem _ hu)
  rw[List.map_cons]
  unfold dy
  rw[if_pos hs]
  simp only[h1,h2,R.iZ,R.aQ,du,R.bf]
  cases q:p n with
  | true=>rw[if_pos rfl,h3 q];simp[q,ih]
  | false=>rw[if_neg Bool.false_ne_true,ih];simp[q]
theorem pK{α:Type}{same:aa->Prop}{b:BD}{d:D}{e:Slots}{μ:aa}(f:α->T)(g:α->T)(hs:same μ)(as:List α)
  (h:∀a∈as,∃e1,b (f a) e=some e1/\d e1 μ=.ok (.val (g a)) μ):dy same b (dC (.bl true)) d e (as.map f) μ=.ok (as.map g) μ:=by
 have:=B6 (same:=same) (b:=b) (c:=dC (.bl true)) (d:=d) (e:=e) (μ:=μ) f (λ_=>true) g hs as λn hn=>by
  obtain⟨e1,h1,h2⟩:=h n hn
  exact⟨e1,h1,rfl,λ_=>h2⟩
 rw[this]
 congr 2
 exact List.filter_eq_self.mpr λ_ _=>rfl
theorem fG{c:D}{body:DS}:∀(n m:Nat) (e:Slots) (μ:aa),n≤m->ba c body n e μ≠.bad->ba c body m e μ=ba c body n e μ
 | 0,m,e,μ,_,h=>absurd rfl h
 | n+1,0,e,μ,h,_=>absurd h (by lia)
 | n+1,m+1,e,μ,hnm,h=>by
  unfold ba at h ⊢
  cases q:c e μ with
  | err x μ1=>simp only[R.toS_err]
  | bad=>rw[q] at h;exact absurd rfl h
  | ok x μ1 =>
   rw[q] at h
   simp only[R.toS_ok] at h ⊢
   cases q2:asB x with
   | none=>rw[q2] at h;exact absurd rfl h
   | some k =>
    rw[q2] at h
    simp only[R.bf,R.toS_ok] at h ⊢
    cases k with
    | false=>rfl
    | true =>
     rw[if_pos rfl] at h ⊢
     rw[if_pos rfl]
     cases q3:body e μ1 with
     | nx e2 μ2=>rw[q3] at h;simp only at h ⊢;exact fG n m e2 μ2 (by lia) h
     | ct e2 μ2=>rw[q3] at h;simp only at h ⊢;exact fG n m e2 μ2 (by lia) h
     | bk e2 μ2=>rfl
     | rt x μ2=>rfl
     | err x e2 μ2=>rfl
     | bad=>rfl
theorem lu{c:D}{body:DS}{n:Nat}{e:Slots}{μ:aa}(h:ba c body n e μ≠.bad):eG c body e μ=ba c body n e μ:=by
 have hn:∃n,ba c body n e μ≠.bad:=⟨n,h⟩
 unfold eG
 rw[dif_pos hn]
 have h2:=hn.choose_spec
 rcases Nat.le_total n hn.choose with z|z
 ·exact fG _ _ _ _ z h
 ·exact(fG _ _ _ _ z h2).symm
theorem vd{c:D}{body:DS}(P:RS->Prop)(hP:¬ P .bad)(I:Nat->Slots->aa->Prop)
  (step:∀m e μ,I m e μ->∃k μ1,c e μ=.ok (.val (.bl k)) μ1/\if k=true then (body e μ1).B4 (λe2 μ2=>∃m',m'<m/\I m' e2 μ2) P else P (.nx e μ1)) :
  ∀(m:Nat) (e:Slots) (μ:aa),I m e μ->P (eG c body e μ):=by
 have key:∀(m:Nat) (e:Slots) (μ:aa),I m e μ->∃n,P (ba c body n e μ):=by
  intro m
  induction m using Nat.strongRecOn with
  | ind m ih =>
   intro e μ hI
   obtain⟨k,μ1,h1,h2⟩:=step m e μ hI
   cases k with
   | false =>
    refine⟨1,?_⟩
    unfold ba
    simp only[h1,R.toS_ok,du,R.bf,Bool.false_eq_true,if_false]
    exact h2
   | true =>
    rw[if_pos rfl] at h2
    cases q:body e μ1 with
    | nx e2 μ2 =>
     rw[q] at h2
     obtain⟨m',hm,hI'⟩:=h2
     obtain⟨n,hn⟩:=ih m' hm e2 μ2 hI'
     refine⟨n+1,?_⟩
     unfold ba
     simp only[h1,R.toS_ok,du,R.bf,if_true,q]
     exact hn
    | ct e2 μ2 =>
     rw[q] at h2
     obtain⟨m',hm,hI'⟩:=h2
     obtain⟨n,hn⟩:=ih m' hm e2 μ2 hI'
     refine⟨n+1,?_⟩
     unfold ba
     simp only[h1,R.toS_ok,du,R.bf,if_true,q]
     exact hn
    | bk e2 μ2 =>
     rw[q] at h2
     refine⟨1,?_⟩
     unfold ba
     simp only[h1,R.toS_ok,du,R.bf,if_true,q]
     exact h2
    | rt x μ2 =>
     rw[q] at h2
     refine⟨1,?_⟩
     unfold ba
     simp only[h1,R.toS_ok,du,R.bf,if_true,q]
     exact h2
    | err x e2 μ2 =>
     rw[q] at h2
     refine⟨1,?_⟩
     unfold ba
     simp only[h1,R.toS_ok,du,R.bf,if_true,q]
     exact h2
    | bad=>rw[q] at h2;exact absurd h2 hP
 intro m e μ hI
 obtain⟨n,hn⟩:=key m e μ hI
 rw[lu (n:=n) (λz=>hP (z ▸ hn))]
 exact hn
def Ge:T->T->Option T
 | .int i,.int j=>some (.int (if j<i then j else i))
 | _,_=>none
def yL:T->T->Option T
 | .int i,.int j=>some (.int (if j > i then j else i))
 | _,_=>none
@[simp] theorem B7(i j:Int):Ge (.int i) (.int j)=some (.int (if j<i then j else i)):=(rfl)
@[simp] theorem B8(i j:Int):yL (.int i) (.int j)=some (.int (if j > i then j else i)):=(rfl)
noncomputable def LN : T -> Option Key
 | .int i=>some (.inl i)
 | .str x=>some (.inr x)
 | _=>none
noncomputable def ve (kts : List (Key × T)) (k : Key) : Option T := (kts.find? fun kv => decide (kv.1 = k)).map (·.2)
noncomputable def Nl (kts : List (Key × T)) (k : Key) (t : T) : List (Key × T) :=
 if (kts.any λkv=>decide (kv.1=k))=true then kts.map (λkv=>if kv.1=k then (kv.1,t) else kv) else kts++[(k,t)]
def B9(x:SV)(k:T)(t:T)(μ:aa):Option aa:=match x with
 | .cel c=>match μ[c]? with
  | some (true,.dct kts)=>(LN k).bind λkk=>if kts.length<szL then some (μ.set c (true,.dct (Nl kts kk t))) else none
  | _=>none
 | _=>none
def LO(i:Nat)(dk dv:D):DS:=λe μ=>(dv e μ).toS e λy μ1=>(R.lift (slot e i) μ1).toS e λx μ1=>(dk e μ1).toS e λz μ2=>(R.lift (rd μ2 z) μ2).toS e λk μ2 =>
 (frz y μ2).toS e λt μ3=>(R.lift (B9 x k t μ3) μ3).toS e λμ4 _=>.nx e μ4
@[simp] theorem B_(i:Nat)(dk dv:D)(e:Slots)(μ:aa):LO i dk dv e μ=(dv e μ).toS e λy μ1=>(R.lift (slot e i) μ1).toS e λx μ1=>(dk e μ1).toS e λz μ2=>(R.lift (rd μ2 z) μ2).toS e λk μ2 =>
 (frz y μ2).toS e λt μ3=>(R.lift (B9 x k t μ3) μ3).toS e λμ4 _=>.nx e μ4:=(rfl)
def Ca(kts:List (Key×T)):List T:=kts.map λp=>.tup [Nf p.1,p.2]
def asD:T->Option (List (Key×T))
 | .dct kts=>some kts
 | _=>none
def Ju(d:D):DI:=λe μ=>(d e μ).bind λx μ1=>(R.lift ((rd μ1 x).bind asD) μ1).bind λkts μ1=>.ok ⟨Ca kts,λμ'=>rd μ' x=rd μ1 x⟩ μ1
@[simp] theorem yM(d:D)(e:Slots)(μ:aa):Ju d e μ=(d e μ).bind λx μ1=>(R.lift ((rd μ1 x).bind asD) μ1).bind λkts μ1=>.ok ⟨Ca kts,λμ'=>rd μ' x=rd μ1 x⟩ μ1:=(rfl)
noncomputable def Cb (i : Int) : List T -> List T
 | []=>[]
 | t::ts=>.tup [.int i,t]::Cb (i+1) ts
def LP(d:D):DI:=λe μ=>(d e μ).bind λx μ1=>(R.lift ((rd μ1 x).bind cE) μ1).bind λts μ1=>.ok ⟨Cb 0 ts,λμ'=>rd μ' x=rd μ1 x⟩ μ1
@[simp] theorem Cd(d:D)(e:Slots)(μ:aa):LP d e μ=(d e μ).bind λx μ1=>(R.lift ((rd μ1 x).bind cE) μ1).bind λts μ1=>.ok ⟨Cb 0 ts,λμ'=>rd μ' x=rd μ1 x⟩ μ1:=(rfl)
def LQ:T->T->Option T
 | .int i,.int j=>if 0≤i/\j=1 then some (.int (i%2)) else none
 | _,_=>none
@[simp] theorem yN(i:Int)(h:0≤i):LQ (.int i) (.int 1)=some (.int (i%2)):=if_pos ⟨h,rfl⟩
def yO:T->Option T
 | .int i=>some (.int i)
 | .bl b=>some (.int (if b then 1 else 0))
 | _=>none
@[simp] theorem Ce(i:Int):yO (.int i)=some (.int i):=(rfl)
@[simp] theorem Gg(b:Bool):yO (.bl b)=some (.int (if b then 1 else 0)):=(rfl)
def asV:SV->Option T
 | .val t=>some t
 | _=>none
@[simp] theorem Gh(t:T):asV (.val t)=some t:=(rfl)
def Jv(is:List Nat)(d:D):DS:=λe μ=>(d e μ).toS e λx μ1=>(R.lift ((asV x).bind λt=>u5 is t e) μ1).toS e λe' μ1=>.nx e' μ1
@[simp] theorem Gi(is:List Nat)(d:D)(e:Slots)(μ:aa):Jv is d e μ=(d e μ).toS e λx μ1=>(R.lift ((asV x).bind λt=>u5 is t e) μ1).toS e λe' μ1=>.nx e' μ1:=(rfl)
@[simp] theorem Cf(i j k:Nat)(t u v:T)(e:Slots):u5 [i,j,k] (.tup [t,u,v]) e=some (((e.set i (some (.val t))).set j (some (.val u))).set k (some (.val v))):=(rfl)
def w5(x:SV)(μ:aa):Option aa:=match x with
 | .cel k=>match μ[k]? with
  | some (true,.lst _)=>some (μ.set k (true,.lst []))
  | _=>none
 | _=>none
def Jw(o:D):DS:=λe μ=>(o e μ).toS e λx μ0=>(R.lift (w5 x μ0) μ0).toS e λμ1 _=>.nx e μ1
@[simp] theorem yP(o:D)(e:Slots)(μ:aa):Jw o e μ=(o e μ).toS e λx μ0=>(R.lift (w5 x μ0) μ0).toS e λμ1 _=>.nx e μ1:=(rfl)
def fj(x:SV)(t:T)(μ:aa):Option aa:=match x,t with
 | .cel k,.lst us=>match μ[k]? with
  | some (true,.lst ts)=>if ts.length+us.length≤szL then some (μ.set k (true,.lst (ts++us))) else none
  | _=>none
 | _,_=>none
def Nm:T->Option T
 | .lst ts=>some (.lst ts.reverse)
 | _=>none
@[simp] theorem Cg(ts:List T):Nm (.lst ts)=some (.lst ts.reverse):=(rfl)
def mw(o d:D):DS:=λe μ=>(o e μ).toS e λx μ0=>(R.lift (oP x μ0) μ0).toS e λ_ μ0=>(d e μ0).toS e λy μ1=>(R.lift ((asV y).bind λt=>fj x t μ1) μ1).toS e λμ2 _=>.nx e μ2
@[simp] theorem vf(o d:D)(e:Slots)(μ:aa):mw o d e μ=(o e μ).toS e λx μ0=>(R.lift (oP x μ0) μ0).toS e λ_ μ0=>(d e μ0).toS e λy μ1=>(R.lift ((asV y).bind λt=>fj x t μ1) μ1).toS e λμ2 _=>.nx e μ2:=(rfl)
def yQ:T->Option T
 | .int i=>if i.natAbs.log2<1920 then some (.str (toString i)) else none
 | _=>none
theorem Ci(i:Int)(h:i.natAbs.log2<1920):yQ (.int i)=some (.str (toString i)):=if_pos h
def plain:List (Sum T Nat)->Option (List T)
 | []=>some []
 | .inl t::xs=>(plain xs).map λts=>t::ts
 | .inr _::_=>none
def c9(n:Str):DS:=λe μ=>.err (.exc n none) e μ
def vg(b:DS)(h:Str->DS):DS:=λe μ=>match b e μ with
 | .err (.exc n none) e' μ'=>h n e' μ'
 | .err _ _ _=>.bad
 | r=>r
def cV(d:DS):DS:=λe μ=>match d e μ with
 | .err _ _ _=>.bad
 | r=>r
def HG(i:Nat)(r:RS):RS:=match r with
 | .nx e μ=>.nx (e.set i none) μ
 | .bk e μ=>.bk (e.set i none) μ
 | .ct e μ=>.ct (e.set i none) μ
 | r=>r
def sAs(i:Nat)(n:Str)(d:DS):DS:=λe μ=>HG i (cV d (e.set i (some (.val (.exc n none)))) μ)
def ly(f:Str->Option Bool)(da:D):D:=λe μ=>(da e μ).bind λx μ1=>match x with
 | .val (.exc n none)=>(match f n with
  | some b=>.ok (.val (.bl b)) μ1
  | none=>.bad)
 | _=>.bad
def yR(b:Bool):T->Option T
 | .bl c=>some (.bl (c==b))
 | .non=>some (.bl false)
 | _=>none
def m9(b:Bool):T->Option T
 | .bl c=>some (.bl (!(c==b)))
 | .non=>some (.bl true)
 | _=>none
end Fw
namespace Fw
open PySem L2 PyProof.Rows
theorem eA{X:Cx}{x:Str}{C:Addr}{bmB:List Value}{B newId uT:String}{np aP pos p2:Pos}{m:Str}{j:Nat}(F:ExcBaseFacts B newId uT bmB)(hc:X.calm=true)(hm:X.mg x=some (.ref C))(q:PySem.W.excIn X.K C bmB newId=true)(hg:Gl X x:=by rfl)
  (hpl:(backTo aP (starEach [.Constant (.str m) j p2] X.env)).any (·.1)=false:=by rfl) (hs:starEach [.Constant (.str m) j p2] X.env=(false,eval (.Constant (.str m) j p2) X.env)::starEach [] X.env:=by rfl) (hd:(x==("__debug__":Str))=false:=by decide) :
  CS X (.Raise (some (.Call (.Name x np) [.Constant (.str m) j p2] [] aP)) none pos) (c9 x) :=
 PS.imp (Bf F hc hg hm q hpl hs hd) λD σ H ⟨F,α,e,μ,S,h⟩=>λpins s h' e' vs I hx =>
  h _ _ ⟨pins,σ,H,F,α,Ex.refl,S,x,C,rfl,hm,.inl ⟨hc,s,h',e',vs,I,hx,rfl,rfl⟩⟩
def spX(K:PySem.W.Frag)(mg:Str->Option Value)(fn:FN)(n:Nat):Sp:=λvs H Q E=>vs.length=n/\∃F α μ xs,bG K F α μ H/\Paired (λv x=>cU K F α v x) vs xs /\
 (fn xs μ).wp (λr μ'=>∀v H' F' α',Ex F α H F' α' H'->bG K F' α' μ' H'->cU K F' α' v r->Q v H')
  (λc μ'=>∀n C,c=.exc n none->mg n=some (.ref C)->∀H' F' α',Ex F α H F' α' H'->bG K F' α' μ' H'->E (.ref C) none H')
section
variable{P:Program}{w:World}{K:PySem.W.Frag}{mg:Str->Option Value}{base:Heap}
theorem qF{x qual:Str}{st:Stmt}{f:Addr}{fd:FuncData}{N ps:List Str}{k:Nat}{d:DS}(F:Fun K x qual st f fd)(S:aY N ps (aw st))
  (hb:∀(cdv:Value) (A:Around) (outer:List Env) (s:Shared) (H:Hp) (E:XK),dP k (A.deeper (envOfC qual (aw st) s.heap.objs.size f cdv))->CSs (j8 (CX1 P w) P w K mg base N qual (aw st) f cdv A outer s H E) (dZ st) d) :
  gb P w K mg base (CX1 P w) (k+1) f fd ps (spX K mg (fnV N.length d) ps.length):=by
 obtain⟨oc,od,kV,doc,pm,an,cdv,ct,osl,rfl,lk,hcd⟩:=F.ex
 refine HC lk hcd S (λvs H Q E h=>h.1) λA outer s H vs Q E hr h=>⟨_,hb cdv A outer s H E hr,?_⟩
 obtain⟨hl,F0,α,μ,xs,S0,o,h⟩:=h
 refine⟨F0,α,_,μ,pJ S0 o,?_⟩
 rw[gB] at h
 have fin:∀{y r:SV}{μ1 μ':aa}{v:V}{H1 F1:Hp}{α1:List Addr},ice μ.length y μ1=.ok r μ'->Ex F0 α H F1 α1 H1->bG K F1 α1 μ1 H1->cU K F1 α1 v y->∃F2,Ex F0 α H F2 α H1/\bG K F2 α μ' H1/\cU K F2 α v r:=λ{y r μ1 μ' v H1 F1 α1} hg x1 S1 o1=>by
  obtain⟨F2,g1,g2,g3,g4⟩:=BM S0.len x1.pre S1 o1 hg
  exact⟨F2,⟨x1.same.trans g1,List.prefix_refl _,λb z h1 h2 h3=>let ⟨a1,a2,a3⟩:=x1.fr b z h1 h2 h3;⟨a1,by rw[g2 b a3];exact a2,h3⟩⟩,g3,g4⟩
 cases q:d (starts N.length xs) μ with
 | rt y μ1 =>
  intro v H1 F1 α1 x1 S1 o1
  rw[q,eQ] at h
  cases hi:ice μ.length y μ1 with
  | ok r μ' =>
   rw[hi] at h
   obtain⟨F2,a1,a2,a3⟩:=fin hi x1 S1 o1
   exact h v H1 F2 α a1 a2 a3
  | err c μ' =>
   unfold ice at hi
   cases hz:frz y μ1 with
   | ok t μ2=>rw[hz] at hi;cases hi
   | err c2 μ2=>exact absurd hz (qo y μ1 c2 μ2)
   | bad=>rw[hz] at hi;cases hi
  | bad=>rw[hi] at h;exact h.elim
 | nx e1 μ1 =>
  intro σ1 H1 F1 α1 x1 S1
  rw[q] at h
  obtain⟨F2,a1,a2,a3⟩:=fin (y:=.val .non) (r:=.val .non) (μ':=μ1.take μ.length) rfl x1 S1.st (Rep.FU (K:=K) (F:=F1))
  exact h .non H1 F2 α a1 a2 a3
 | bk e1 μ1=>rw[q] at h;exact h.elim
 | ct e1 μ1=>rw[q] at h;exact h.elim
 | bad=>rw[q] at h;exact h.elim
 | err c e1 μ1 =>
  rw[q] at h
  rintro ev s' ⟨pins,σ',H',F',α',x1,S1,n,C,rfl,hm,Jx⟩
  obtain⟨F2,a1,a2,a3⟩:=fin (y:=.val .non) (r:=.val .non) (μ':=μ1.take μ.length) rfl x1 S1.st (Rep.FU (K:=K) (F:=F'))
  have hE:E (.ref C) none H':=h n C rfl hm H' F2 α a1 a2
  rcases Jx with ⟨_,s2,h',e,vs',I,hx,rfl,rfl⟩|⟨H0,s2,I,hx⟩|⟨_,e2,t2,B2,rfl,c2⟩
  ·exact Bd I hx hE
  ·exact Fg I hx λcv H'' ao=>by obtain⟨z1,z2⟩:=ao;subst z1 z2;exact hE
  ·exact Jf c2 hE
end
section
variable{X:Cx}{f:Addr}{fd:FuncData}{ps:List Str}{x:Str}{p pos:Pos}{e:Expr}{es:List Expr}{ds:List D}{fn:FN}{k:Nat}
theorem gp(G:gb X.prog X.w X.K X.mg X.base (CX1 X.prog X.w) k f fd ps (spX X.K X.mg fn ps.length))(hr:dP k X.A)(hm:X.mg x=some (.ref f))(hk:PySem.W.keepIn X.K (.ref f)=true)(hb:Binds X.K fd ps [])(ha:CA X (e::es) ds)
  (hl:ds.length=ps.length:=by rfl) (hg:Gl X x:=by rfl) (hdb:(x==("__debug__":Str))=false:=by decide) (he:starEach (e::es) X.env=(false,eval e X.env)::starEach es X.env:=by rfl) (hpl:(backTo pos (starEach es X.env)).any (·.1)=false:=by rfl) :
  CE X (.Call (.Name x p) (e::es) [] pos) (ax fn ds):=by
 intro pins s σ H Q I ⟨F,α,e0,μ,S,h⟩
 refine wpAny_Call_Name_kw (iY I hg hm ?_ hdb)
 have hA:tDA X ds σ H (λvs H1=>∃F1 α1 μ1 xs,Ex F α H F1 α1 H1/\Sim X.K F1 α1 e0 μ1 σ H1/\Paired (λv x=>cU X.K F1 α1 v x) vs xs/\xs.length=ds.length/\(fn xs μ1).wp (BN X.K F α H e0 σ Q) (bX X F α H e0)) :=
  ⟨F,α,e0,μ,S,(dz (R.wp_bind h)).mono (λxs μ1 ⟨hn,h⟩ vs H1 F1 α1 x1 S1 o1=>⟨F1,α1,μ1,xs,x1,S1,o1,hn,h⟩) λ_ _ h=>h⟩
 refine PySem.W.callWith_K (h₀:=X.base) I.ok.mod.kin hk (thn (ha pos pins s σ H _ I hA) λus s1 ⟨vs,H1,I1,r,F1,α1,μ1,xs,x1,S1,o1,hn,hw⟩=>⟨I1.kIn,?_⟩) he hpl
 have hlen:us.length=ps.length:=by rw[← r.length,o1.length,hn,hl]
 let E:XK:=λcv _ H'=>∃n C F' α' μ2,cv=.ref C/\X.mg n=some (.ref C)/\fn xs μ1=.err (.exc n none) μ2/\Ex F1 α1 H1 F' α' H'/\bG X.K F' α' μ2 H'
 have hsp:spX X.K X.mg fn ps.length vs H1 Q E:=by
  refine⟨by rw[r.length,hlen],F1,α1,μ1,xs,S1.st,o1,?_⟩
  cases q:fn xs μ1 with
  | ok rr μ2=>rw[q] at hw;exact λv H2 F2 α2 x2 S2 o2=>hw v H2 F2 α2 (x1.trans x2) (S1.of x2.same x2.pre S2) o2
  | err c μ2=>exact λn C hc hmn H2 F2 α2 x2 S2=>⟨n,C,F2,α2,μ2,rfl,hmn,by rw[q,hc],x2,S2⟩
  | bad=>rw[q] at hw;exact hw.elim
 have hbn:=hb s1 us I1.kIn (by rw[List.append_nil];exact hlen)
 rw[List.append_nil] at hbn
 refine wpAny_call (codeAny_mono (G.run X.A X.stack s1 H1 ⟨us,[]⟩ us vs Q E hr I1.E4 hbn r hsp) λrr s' hq=>?_)
 cases rr with
 | error ev =>
  obtain⟨e',t,C,H',B,hev,hos,mO,U,hok,⟨n,C',F2,α2,μ2,hc,hmn,hfn,x2,S2⟩,fl,cov,iu⟩:=(show CX1 X.prog X.w X.stack H1 s1 E ev s' from hq)
  cases hc
  rw[hfn] at hw
  exact hw ev s' ⟨pins,σ,H',F2,α2,x1.trans x2,S1.of x2.same x2.pre S2,n,C,rfl,hmn,.inr (.inl ⟨H1,s1,I1,e',t,C,H',B,hev,hos,mO,U,hok,⟨rfl,rfl⟩,fl,cov,iu⟩)⟩
 | ok fl =>
  cases fl with
  | ret u=>exact I1.after hq
  | next=>exact False.elim hq
  | brk=>exact False.elim hq
  | cont=>exact False.elim hq
end
abbrev w6(X:Cx)(E:Value->Shared->Prop)(pn:List (Addr×Obj)):Cx:={ X with xe:=E,pn:=pn,calm:=false }
section
variable{X:Cx}{pins:List (Addr×Obj)}{σ:L2.St}{H:Hp}{s:Shared}
theorem yS(I:Inv X pins σ H s)(E:Value->Shared->Prop):Inv (w6 X E (X.pn++pins)) [] σ H s :=
 ⟨⟨I.ok.mod,I.ok.kind,I.ok.glob,I.ok.blt,I.ok.above,I.ok.inj,I.ok.has,I.ok.cab,(λh=>by cases h),I.ok.frames,I.ok.stk,I.ok.exf,I.ok.bs,I.ok.bsz,I.ok.oM,I.ok.r8,I.ok.jC,I.ok.frf⟩,I.os,I.bare,I.base,I.loc,I.cell,I.free,I.df,
  λp hp=>I.pin p (by simpa using hp),I.hok,I.len⟩
theorem eB{E:Value->Shared->Prop}{fC:List (Addr×Obj)}(ok:X.Ok)(I:Inv (w6 X E (X.pn++pins)) fC σ H s):Inv X pins σ H s :=
 ⟨ok,I.os,I.bare,I.base,I.loc,I.cell,I.free,I.df,λp hp=>I.pin p (List.mem_append_left _ hp),I.hok,I.len⟩
theorem vh{E:Value->Shared->Prop}{D:Ends}{f:Flow}(ok:X.Ok)(h:SP (w6 X E (X.pn++pins)) [] D f s):SP X pins D f s:=by
 cases f with
 | next=>obtain⟨σ',H',I,q⟩:=h;exact⟨σ',H',eB ok I,q⟩
 | brk=>obtain⟨σ',H',I,q⟩:=h;exact⟨σ',H',eB ok I,q⟩
 | cont=>obtain⟨σ',H',I,q⟩:=h;exact⟨σ',H',eB ok I,q⟩
 | ret u=>obtain⟨v,σ',H',I,r,q⟩:=h;exact⟨v,σ',H',eB ok I,r,q⟩
end
def CH(X:Cx)(hs:List ExceptHandler)(d:Str->DS):Prop:=∀(pins:List (Addr×Obj)) (σ:L2.St) (H:Hp) (e t C:Addr) (B:Heap) (s:Shared) (n:Str) (D:Ends) (F:Hp) (α:List Addr) (e':Slots) (μ':aa),
 Cau X pins σ H e t C B s->X.mg n=some (.ref C)->Sim X.K F α e' μ' σ H->aU X F α H D (d n e' μ')->wpAny (model X.prog X.w) X.A (handleBy (.ref e) X.env hs) (SP X pins D) X.xe s
theorem Jy{X:Cx}{body:List Stmt}{h₀:ExceptHandler}{hs:List ExceptHandler}{pos:Pos}{db:DS}{dh:Str->DS}(hst:X.stack=X.env::X.outer)(hf:X.env.frame=some X.env.locals)(hb:∀E pn,CSs (w6 X E pn) body db)(hh:CH X (h₀::hs) dh) :
  CS X (.Try body (h₀::hs) [] [] pos) (vg db dh):=by
 intro pins s σ H D I ⟨F,α,e,μ,S,h⟩
 have ok:=I.ok
 refine wpAny_Try_except ?_
 refine wpAny_mono (hb _ (X.pn++pins) [] s σ H D (yS I _) ⟨F,α,e,μ,S,?_⟩) (λf s₁ q=>?_) (λ_ _ z=>z)
 ·unfold vg at h
  cases q:db e μ with
  | nx e1 μ1=>rw[q] at h;exact h
  | rt y μ1=>rw[q] at h;exact h
  | bk e1 μ1=>rw[q] at h;exact h
  | ct e1 μ1=>rw[q] at h;exact h
  | bad=>rw[q] at h;exact h
  | err c e1 μ1 =>
   rw[q] at h
   rintro ev s' ⟨fC,σ',H',F',α',x1,S1,n,C,rfl,hm,Jx⟩
   rcases Jx with ⟨eo,_⟩|⟨H0,s2,I2,hx⟩|⟨eo,_⟩
   ·cases eo
   ·have I3:Inv X pins σ' H0 s2:=eB ok I2
    refine cau hst hf I3 hx λe2 t2 C2 H2 B h5 hev hE2 cc=>?_
    subst hev
    obtain⟨hc1,hc2⟩:=hE2
    cases hc1
    subst hc2
    exact hh pins σ' _ e2 t2 C B _ n D F' α' e1 μ1 cc hm S1 (aU.mono x1 h)
   ·cases eo
 ·have q:=vh ok q
  cases f with
  | next=>exact wpAny_execs_nil q
  | brk=>exact q
  | cont=>exact q
  | ret u=>exact q
end Fw
namespace L2
open PySem PySem.Spec PyProof.Rows
section
variable{prog:Program}{w:World}{A:Around}{E:Value->Shared->Prop}{s:Shared}{e C:Addr}{bm:List Value}{Q:Value->Shared->Prop}{c:Value}
end
end L2
namespace Fw
open PySem L2 PyProof.Rows
def jK(K:PySem.W.Frag)(C:Addr):List Value:=match K.lookup C with
 | some ⟨_,_,.cls cd,_⟩=>cd.mro
 | _=>[]
structure sY(K:PySem.W.Frag)(C:Addr):Prop where
 ex:∃bmB newId,PySem.W.excIn K C bmB newId=true/\bmB.contains (.type "BaseException")=true
theorem sY.own{K:PySem.W.Frag}{C:Addr}{h:Heap}(o:sY K C)(X:K.In h):∃bm,fe h C bm/\jK K C=.ref C::bm:=by
 obtain⟨bmB,newId,q,hb⟩:=o.ex
 obtain⟨bm,N,nm,qn,bs,hdct,sn,sub,ab,col,dd,k0,k1,k2,k3,k5,mN,hC,hN,hni,T⟩:=(Be (mg:=λ_=>some (.ref C)) (x:="") X rfl q).obj
 refine⟨bm,⟨nm,qn,N,bs,hdct,sn,sub,ab,col,dd,k0,k1,k2,k3,k5,newId,hC,T.hasType hb⟩,?_⟩
 unfold jK
 unfold PySem.W.excIn at q
 cases hl:K.lookup C with
 | none=>rw[hl] at q;cases q
 | some o =>
  have:=X _ _ hl
  rw[hC] at this
  cases this
  rfl
def qG(K:PySem.W.Frag)(C:Addr):Prop:=∀h:Heap,K.In h->∃bm,fe h C bm
theorem gF{K:PySem.W.Frag}{C N:Addr}{nm qn:Str}{bs bm:List Value}{hdct:Bool}{sn:List Str}{sub:List Value}{ab:Bool}{col:Option Bool}{dd:Option Addr}{k0 k1 k2 k3 k5:Option Value}{newId:String}
  (l:K.lookup C=some ⟨.type "type",dd,.cls ⟨nm,bs,.ref C::bm,N,qn,hdct,sn,sub,ab,col,false⟩,#[k0,k1,k2,k3,some (.builtin newId),k5]⟩) (m:PySem.W.mroIn K C (.type "BaseException")=some true):qG K C:=λh X=>by
 refine⟨bm,nm,qn,N,bs,hdct,sn,sub,ab,col,dd,k0,k1,k2,k3,k5,newId,X _ _ l,?_⟩
 have hc:PySem.W.clsIn K C=some ⟨nm,bs,.ref C::bm,N,qn,hdct,sn,sub,ab,col,false⟩:=by
  unfold PySem.W.clsIn
  rw[l]
 unfold PySem.W.mroIn at m
 rw[hc] at m
 have m:(Value.ref C::bm).contains (.type "BaseException")=true:=by
  simpa using m
 rw[List.contains_cons] at m
 simpa using m
def CH1(X:Cx)(hs:List ExceptHandler)(n:Str)(d:DS):Prop:=∀(pins:List (Addr×Obj)) (σ:L2.St) (H:Hp) (e t C:Addr) (B:Heap) (s:Shared) (D:Ends) (F:Hp) (α:List Addr) (e':Slots) (μ':aa),
 Cau X pins σ H e t C B s->X.mg n=some (.ref C)->Sim X.K F α e' μ' σ H->aU X F α H D (d e' μ')->wpAny (model X.prog X.w) X.A (handleBy (.ref e) X.env hs) (SP X pins D) X.xe s
theorem CH.of{X:Cx}{hs:List ExceptHandler}{d:Str->DS}(h:∀n,CH1 X hs n (d n)):CH X hs d:=λpins σ H e t C B s n D F α e' μ' c hm S p=>h n pins σ H e t C B s D F α e' μ' c hm S p
theorem Gj{X:Cx}{hs:List ExceptHandler}{n:Str}:CH1 X hs n yC:=λpins σ H e t C B s D F α e' μ' c hm S p=>False.elim p
theorem pL{X:Cx}{ev:Value}{F H:Hp}{α:List Addr}{D:Ends}{d:DS}{e:Slots}{μ:aa}(h:aU X F α H D (cV d e μ)):aU (X.mark ev) F α H D (d e μ):=by
 unfold cV at h
 cases q:d e μ with
 | err c e1 μ1=>rw[q] at h;exact False.elim h
 | nx e1 μ1=>rw[q] at h;exact h
 | rt y μ1=>rw[q] at h;exact h
 | bk e1 μ1=>rw[q] at h;exact h
 | ct e1 μ1=>rw[q] at h;exact h
 | bad=>rw[q] at h;exact h
section
variable{X:Cx}{n x:Str}{C D:Addr}{np pos tp:Pos}{name:Option Str}{body tl:List Stmt}{b₀:Stmt}{rest:List ExceptHandler}{d:DS}
theorem in_of{pins:List (Addr×Obj)}{σ:L2.St}{H:Hp}{s:Shared}(I:Inv X pins σ H s):X.K.In s.heap:=by
 have e0:=I.E4
 exact e0.mod.kin.keeps λb o e=>(e0.bs b o e).1
theorem MI(hn:X.mg n=some (.ref C))(hC:sY X.K C)(hm:X.mg x=some (.ref D))(hD:sY X.K D)(Cj:(jK X.K C).contains (.ref D)=true)(hp:∀ev,CSs (X.mark ev) (b₀::tl) d)(hg:Gl X x:=by rfl)(hd:(x==("__debug__":Str))=false:=by decide) :
  CH1 X (.ExceptHandler (some (.Name x np)) none (b₀::tl) pos::rest) n (cV d):=by
 intro pins σ H e t C' B s D' F α e' μ' c hm' S p
 rw[hn] at hm'
 cases hm'
 have KX:=in_of c.inv
 obtain⟨bm,oC,eC⟩:=hC.own KX
 obtain⟨bm',oD,_⟩:=hD.own KX
 refine pq c oC ⟨bm',oD⟩ hg hm ?_ hd
 rw[eC] at Cj
 rw[if_pos Cj]
 exact uU (ts:=tDS X (cV d)) c (λev=>PSs.imp (hp ev) λD σ H ⟨F,α,e,μ,S,p⟩=>⟨F,α,e,μ,S,pL p⟩) ⟨F,α,e',μ',S,p⟩
theorem yT(e:Slots)(i j:Nat):slot (e.set i none) j=if i=j then none else slot e j:=by
 unfold slot
 by_cases hj:i=j
 ·subst hj
  rw[if_pos rfl]
  by_cases hl:i<e.length
  ·rw[List.getElem?_set_self hl]
  ·rw[List.getElem?_eq_none (by rw[List.length_set];omega)]
 ·rw[if_neg hj,List.getElem?_set_ne hj]
theorem m_{K:PySem.W.Frag}{F H:Hp}{α:List Addr}{e:Slots}{μ:aa}{σ:L2.St}(i:Nat)(S:Sim K F α e μ σ H):Sim K F α (e.set i none) μ (σ.set i none) H:=by
 refine⟨S.st,λj x h=>?_,by rw[List.length_set,List.length_set];exact S.len⟩
 rw[yT] at h
 by_cases hj:i=j
 ·rw[if_pos hj] at h;cases h
 ·rw[if_neg hj] at h
  obtain⟨v,h1,h2⟩:=S.sl j x h
  exact⟨v,by rw[List.getElem?_set_ne hj];exact h1,h2⟩
theorem LR{i:Nat}{m:Str}(hst:X.stack=X.env::X.outer)(hf:X.env.frame=some X.env.locals)(hex:X.ex=[])(hN:X.N.Nodup)(hi:X.N[i]?=some m)(hk:X.env.scope.names.lookup m=some .local)
  (hn:X.mg n=some (.ref C)) (hns:PySem.W.nsIn X.K mainGlobals n=some (some (.ref C))) (hC:sY X.K C) (hm:X.mg x=some (.ref D)) (hD:sY X.K D) (Cj:(jK X.K C).contains (.ref D)=true) (hp:∀ev,CSs (X.mark ev) (b₀::tl) d) (hg:Gl X x:=by rfl) (hd:(x==("__debug__":Str))=false:=by decide) :
  CH1 X (.ExceptHandler (some (.Name x np)) (some m) (b₀::tl) pos::rest) n (sAs i n d):=by
 intro pins σ H e t C' B s D' F α e' μ' c hm' S p
 rw[hn] at hm'
 cases hm'
 have KX:=in_of c.inv
 obtain⟨bm,oC,eC⟩:=hC.own KX
 obtain⟨bm',oD,_⟩:=hD.own KX
 refine pq c oC ⟨bm',oD⟩ hg hm ?_ hd
 rw[eC] at Cj
 rw[if_pos Cj]
 refine Bi (φ:=ExcAt X.K e n none) (ts:=tDS X (cV d)) hst hf hex hN hi hk c (λh q=>⟨C,hns,q⟩) (λh1 h2 ⟨C1,q1,o,q2,q3⟩ k=>⟨C1,q1,o,k o q2,q3⟩) (λev=>PSs.imp (hp ev) λD σ H ⟨F,α,e,μ,S,p⟩=>⟨F,α,e,μ,S,pL p⟩) ?_
 have hHe:H e=none:=by
  cases q:H e with
  | none=>rfl
  | some o =>
   obtain⟨o',h1⟩:=c.cov e o q
   rw[c.fly.2.1] at h1
   cases h1
 have g:a_ F H (upd F e (.ext (ExcAt X.K e n none))) (upd H e (.ext (ExcAt X.K e n none))):=a_.new hHe
 refine⟨_,α,e'.set i (some (.val (.exc n none))),μ',(S.grow g).set (x:=.val (.exc n none)) (v:=.ref e) ?_,?_⟩
 ·exact⟨e,rfl,aH⟩
 ·have p:=aU.mono (g.ex S.st.ext) p
  unfold sAs at p
  cases q:cV d (e'.set i (some (.val (.exc n none)))) μ' with
  | nx e1 μ1=>rw[q] at p;exact λσ1 H1 F1 α1 x1 S1=>p _ H1 F1 α1 x1 (m_ i S1)
  | bk e1 μ1=>rw[q] at p;exact λσ1 H1 F1 α1 x1 S1=>p _ H1 F1 α1 x1 (m_ i S1)
  | ct e1 μ1=>rw[q] at p;exact λσ1 H1 F1 α1 x1 S1=>p _ H1 F1 α1 x1 (m_ i S1)
  | rt y μ1=>rw[q] at p;exact p
  | err c1 e1 μ1=>rw[q] at p;exact p
  | bad=>rw[q] at p;exact p
theorem sZ{x1}(hn:X.mg n=some (.ref C))(hC:sY X.K C)(ns:List NmD)(hl:ns.length≤1000)(ok:∀q∈ns,Je X q/\qG X.K q.2.2/\(jK X.K C).contains (.ref q.2.2)=false)(hr:CH1 X rest n d) :
  CH1 X (.ExceptHandler (some (.Tuple (ns.map nmE) x1 tp)) name body pos::rest) n d:=by
 intro pins σ H e t C' B s D' F α e' μ' c hm' S p
 rw[hn] at hm'
 cases hm'
 have KX:=in_of c.inv
 obtain⟨bm,oC,eC⟩:=hC.own KX
 refine Bh ns hl c oC (λq hq=>?_) (λq hq=>(ok q hq).1) λs' kp c'=>?_
 ·exact(ok q hq).2.1 _ KX
 ·have ha:(ns.any λq=>(Value.ref C::bm).contains (.ref q.2.2))=false:=by
   rw[List.any_eq_false]
   intro q hq
   have:=(ok q hq).2.2
   rw[eC] at this
   rw[this]
   exact Bool.false_ne_true
  rw[if_neg (by rw[ha];exact Bool.false_ne_true)]
  exact hr pins σ H e t C B s' D' F α e' μ' c' hn S p
end
section
variable{X:Cx}{D:Addr}{T:String}{x:Str}{p p2 pos:Pos}{a:Expr}{da:Fw.D}{ns:List Str}
end
end Fw
namespace L2
open PySem PySem.Spec PySem.Calls PySem.W PyProof.Rows Builtin Builtin.ObjectAttr Builtin.Getset_descriptor
section
variable{prog:Program}{w:World}{A:Around}{E:Value->Shared->Prop}{s:Shared}{K:Frag}{x C:Addr}
theorem eD{M:Model}{h:Heap}(hx:fW x C h):Looks M h (typeOf (.ref x)) (.ref C):=by
 obtain⟨o,h1,h2⟩:=hx
 exact h2 ▸ (Looks.ld h1).andThen .now
theorem Gk{R:Result->Shared->Prop}{tp:Value}(X:K.In s.heap)(hx:fW x C s.heap)(hm:mroIn K C (.type "object")=some true)(h:R (.ok (.ret (.ref C))) s) :
  codeAny (model prog w) A (.call (.builtin "getset_descriptor.__get__") ⟨[.builtin "object.__class__",.ref x,tp],[]⟩) R s:=by
 have T:=eD (M:=model prog w) hx
 have O:=looks_mroIn (M:=model prog w) X hm
 obtain⟨hh,g,dr,t,os⟩:=s
 refine codeAny_call_builtin KF.slot_gs.plain KF.entry_gs (KF.slot_gs.check _ _ _ _ _ _ _ _ KF.type_class (KF.args_gs _ _ _) ?_)
 unfold Builtin.«getset_descriptor.__get__» descrGet
 rw[dga_obj]
 refine wpAny_bind (wpAny_pure ?_)
 unfold descrGetter descrCheckInstance descrNameAndClass isInstance
 simp only[KF.owner_class]
 repeat lk
 refine⟨Code.quiet_builtin _ (by decide +kernel),codeAny_builtin KF.entry_class ?_⟩
 unfold Builtin.«object.__class__» shownTypeOf
 repeat lk
 exact h
theorem Ck{M:Model}{h:Heap}{v:Value}(X:K.In h)(ha:findIn K (.ref C) "__class__"=some (some (.builtin "object.__class__")))(hn:specialIn K (.builtin "object.__class__") "__get__"=some (some (.builtin "getset_descriptor.__get__")))(htk:takesIn K (.builtin "object.__class__")=some true) :
  Looks M h (find v (.ref C) "__class__") (.bind (.builtin "getset_descriptor.__get__") (.builtin "object.__class__")):=by
 have l1:=looks_findIn (M:=M) X ha
 have l2:Looks M h (getOf (some (.builtin "object.__class__"))) (some (.builtin "getset_descriptor.__get__")):=looks_specialIn X hn
 have l3:Looks M h (dataDescriptor? (some (.builtin "object.__class__")) (some (.builtin "getset_descriptor.__get__"))) (some (.builtin "getset_descriptor.__get__",.builtin "object.__class__")):=(looks_takesIn (M:=M) X htk).andThen .now
 exact l1.andThen (l2.andThen (l3.andThen (Looks.tag .now)))
structure KGet(K:Frag)(C:Addr):Prop where
 ga:findIn K (.ref C) "__getattribute__"=some (some (.builtin "BaseException.__getattribute__"))
 gn:findIn K (.ref C) "__getattr__"=some none
 a:findIn K (.ref C) "__class__"=some (some (.builtin "object.__class__"))
 n:specialIn K (.builtin "object.__class__") "__get__"=some (some (.builtin "getset_descriptor.__get__"))
 t:takesIn K (.builtin "object.__class__")=some true
 m:mroIn K C (.type "object")=some true
 mb:mroIn K C (.type "BaseException")=some true
theorem yU{tk:Tok}{Q:Unit->Shared->Prop}(k:KGet K C)(X:K.In s.heap)(hx:fW x C s.heap)(h:Q () s):wpAny (model prog w) A (checkBuiltinCall "BaseException.__getattribute__" ⟨[.ref x,.str "__class__" tk],[]⟩) Q E s:=by
 have T:=eD (M:=model prog w) hx
 have O:=looks_mroIn (M:=model prog w) X k.mb
 have hk:builtinKind "BaseException.__getattribute__"=some .slot:=by decide +kernel
 have Jz:splitId "BaseException.__getattribute__"=some ("BaseException","__getattribute__"):=by decide +kernel
 have ha:=F.args_bexc_ga (.ref x) (.str "__class__" tk)
 obtain⟨hh,g,dr,t,os⟩:=s
 simp only[checkBuiltinCall,hk,Jz]
 refine wpAny_bind ?_
 unfold isInstance
 repeat lk
 repeat (any_goals (first|assumption|wp_step))
theorem yV{tk:Tok}{R:Result->Shared->Prop}(k:KGet K C)(X:K.In s.heap)(hx:fW x C s.heap)(h:R (.ok (.ret (.ref C))) s) :
  codeAny (model prog w) A (.call (.builtin "BaseException.__getattribute__") ⟨[.ref x,.str "__class__" tk],[]⟩) R s:=by
 have T:=eD (M:=model prog w) hx
 have Fd:=Ck (M:=model prog w) (v:=.ref x) X k.a k.n k.t
 have go:∀A',codeAny (model prog w) A' (.call (.builtin "getset_descriptor.__get__") ⟨[.builtin "object.__class__",.ref x,.ref C],[]⟩) (λr s'=>match r with|.ok (.ret v)=>v=.ref C/\s'=s|_=>False) s :=
  λA'=>Gk (s:=s) X hx k.m ⟨rfl,rfl⟩
 refine codeAny_call_builtin F.attrBase_ValueError.ga.plain F.entry_bexc_ga (yU k X hx ?_)
 obtain⟨hh,g,d,t,os⟩:=s
 unfold Builtin.«object.__getattribute__»
 refine wpAny_bind (wpAny_pure ?_)
 refine wpAny_bind (wpAny_pure ?_)
 refine wpAny_bind (T.at (wpAny_bind (Fd.at ?_)))
 show wpAny _ _ (holding [_] (call _ [_,.ref x,.ref C])>>=ret) _ _ _
 refine wpAny_bind (wpAny_holding (wpAny_call (codeAny_mono (go _) λr s' q=>?_)))
 match r,q with
 | .ok (.ret v),q =>
  obtain⟨rfl,rfl⟩:=q
  exact wpAny_pure h
theorem yW{Q:Option Value->Shared->Prop}(k:KGet K C)(X:K.In s.heap)(hx:fW x C s.heap)(h:Q (some (.ref C)) { s with toks:=s.toks+1 }):wpAny (model prog w) A (getAttr? (.ref x) "__class__") Q E s:=by
 have T:=eD (M:=model prog w) hx
 have G:=looks_findIn (M:=model prog w) X k.ga
 have N:=looks_findIn (M:=model prog w) X k.gn
 have go:∀A',codeAny (model prog w) A' (.call (.builtin "BaseException.__getattribute__") ⟨[.ref x,.str "__class__" s.toks],[]⟩) (λr s'=>match r with|.ok (.ret v)=>v=.ref C/\s'={ s with toks:=s.toks+1 }|_=>False) { s with toks:=s.toks+1 } :=
  λA'=>yV (s:={ s with toks:=s.toks+1 }) k X hx ⟨rfl,rfl⟩
 obtain⟨hh,g,d,t,os⟩:=s
 unfold getAttr? getAttrBy? getAttrBy
 refine wpAny_bind (wpAny_mkText (wpAny_bind (wpAny_attempt (wpAny_holding (wpAny_bind (T.at (wpAny_bind (G.at ?_))))))))
 show wpAny _ _ (getAttrByItsOwn _ _ _ _ _ _) _ _ _
 unfold getAttrByItsOwn hookBefore callGetattribute boundAndCalled
 refine wpAny_bind (N.at ?_)
 refine wpAny_bind (wpAny_attempt (wpAny_holding ?_))
 show wpAny _ _ (bindSpecial (.builtin "BaseException.__getattribute__") (.ref x)>>=_) _ _ _
 refine wpAny_bind (wpAny_of_eq (F.attrBase_ValueError.ga.bind _) ?_)
 refine wpAny_call (codeAny_mono (go _) λr s' q=>?_)
 match r,q with
 | .ok (.ret v),q =>
  obtain⟨rfl,rfl⟩:=q
  exact handed_on rfl (wpAny_pure h)
structure Gm(K:Frag)(C:Addr):Prop extends KGet K C where
 cl:(clsIn K C).isSome=true
theorem s_{h:Heap}(k:Gm K C)(X:K.In h):∃c d cd sl,h.get? C=some ⟨c,d,.cls cd,sl⟩:=by
 obtain⟨cd,hc⟩:=Option.isSome_iff_exists.mp k.cl
 unfold clsIn at hc
 split at hc
 ·rename_i c' d' cd' sl' ho
  exact⟨_,_,_,_,X _ _ ho⟩
 ·cases hc
theorem tf(k:Gm K C):KitX K (.ref x) (.ref C) (fW x C) where
 ty:=λ_ _ _ hx=>eD hx
 it:=λ_ _ X _=>by
  obtain⟨c,d,cd,sl,ho⟩:=s_ k X
  intro A' Q' E' s' kk q
  unfold isType loadHead
  exact wpAny_bind (wpAny_loadPart (kk _ _ ho) (wpAny_pure q))
 ne:=λh tp dd its n sl X htp=>by
  obtain⟨c,d,cd,sl',ho⟩:=s_ k X
  refine Bool.eq_false_iff.mpr λq=>?_
  have e:C=tp:=Value.ref.inj (beq_iff_eq.mp q)
  subst e
  rw[ho] at htp
  cases htp
 ca:=λX hx h=>yW k.toKGet X hx h
end
end L2
namespace Fw
open PySem L2 PyProof.Rows
structure KCls(K:PySem.W.Frag)(n:Str)(C:Addr):Prop where
 ns:PySem.W.nsIn K mainGlobals n=some (some (.ref C))
 ke:Gm K C
def JA(X:Cx)(c:V)(r:Addr->Option Bool):List V->Hp->VK->Prop:=λxs H Q=>∃a n C b,xs=[.ref a,c]/\H a=some (.ext (ExcAt X.K a n none))/\KCls X.K n C/\r C=some b/\Q (.bl b) H
section
variable{X:Cx}{D:Addr}{Tn:String}{x:Str}{p p2 pos:Pos}{a:Expr}{da:Fw.D}{f:Str->Option Bool}
theorem Cm{pins:List (Addr×Obj)}{σ:L2.St}{H:Hp}{s:Shared}{a C:Addr}{n:Str}(I:Inv X pins σ H s)(hH:H a=some (.ext (ExcAt X.K a n none)))(k:KCls X.K n C):fW a C s.heap:=by
 obtain⟨⟨C',LS,hx⟩,_,_⟩:=(show cS X.prog X.w H s.heap a (.ext (ExcAt X.K a n none)) from I.hok a _ hH)
 rw[k.ns] at LS
 cases LS
 exact hx
theorem Cn:dg X (.builtin "isinstance") (JA X (.ref D) λC=>PySem.W.kitOne X.K (.ref C) (.ref D)):=by
 intro pins s σ H xs us Q I r h
 obtain⟨a,n,C,b,rfl,hH,k,hb,q⟩:=h
 obtain⟨u1,u2,rfl,r1,r2⟩:=vals2 r
 cases r1
 cases r2
 exact PySem.W.kia_one (tf k.ke) (in_of I) (Cm I hH k) hb (λz=>nomatch z) λtk=>⟨.bl b,H,I.tok _,rfl,q⟩
theorem yX:dg X (.builtin "isinstance") (JA X (.ty Tn) λC=>PySem.W.kitOne X.K (.ref C) (.type Tn)):=by
 intro pins s σ H xs us Q I r h
 obtain⟨a,n,C,b,rfl,hH,k,hb,q⟩:=h
 obtain⟨u1,u2,rfl,r1,r2⟩:=vals2 r
 cases r1
 have r2:u2=Value.type Tn:=r2
 subst r2
 exact PySem.W.kia_one (tf k.ke) (in_of I) (Cm I hH k) hb (λz=>nomatch z) λtk=>⟨.bl b,H,I.tok _,rfl,q⟩
theorem tj{σ:L2.St}{H:Hp}{Q:VK}{c:V}{r:Addr->Option Bool}(hf:∀n b,f n=some b->∃C,KCls X.K n C/\r C=some b)(h:tD X (ly f da) σ H Q) :
  AY (tD X da) (AY (tC c) K6) σ H λvs H1=>JA X c r vs H1 Q:=by
 obtain⟨F,α,e,μ,S,h⟩:=h
 refine⟨F,α,e,μ,S,(R.wp_bind h).mono (λx μ1 h v H1 F1 α1 x1 S1 o1=>?_) λ_ _ h=>h⟩
 match x,h with
 | .val (.exc n none),h =>
  have h:(match f n with|some b=>R.ok (SV.val (T.bl b)) μ1|none=>R.bad).wp (BN X.K F α H e σ Q) (bX X F α H e):=h
  cases hn:f n with
  | some b =>
   rw[hn] at h
   obtain⟨C,h1,h2⟩:=hf n b hn
   obtain⟨a,rfl,hF⟩:=(show ∃a,v=.ref a/\F1 a=some (.ext (ExcAt X.K a n none)) from o1)
   exact⟨a,n,C,b,rfl,S1.st.ext a _ hF,h1,h2,h _ H1 F1 α1 x1 S1 (Rep.bl' (K:=X.K) (F:=F1) b)⟩
  | none=>rw[hn] at h;exact h.elim
 | .val (.exc n (some t)),h=>exact h.elim
 | .val .non,h=>exact h.elim
 | .val (.bl b),h=>exact h.elim
 | .val (.int i),h=>exact h.elim
 | .val (.str y),h=>exact h.elim
 | .val (.lst y),h=>exact h.elim
 | .val (.tup y),h=>exact h.elim
 | .val (.dct y),h=>exact h.elim
 | .cel k,h=>exact h.elim
 | .box y,h=>exact h.elim
theorem JB(hi:X.mg "isinstance"=none)(hm:X.mg x=some (.ref D))(hf:∀n b,f n=some b->∃C,KCls X.K n C/\PySem.W.kitOne X.K (.ref C) (.ref D)=some b)(ha:CE X a da)(hg1:Gl X "isinstance":=by rfl)(hg:Gl X x:=by rfl)(hd:(x==("__debug__":Str))=false:=by decide)
  (hs1:starEach [a,.Name x p2] X.env=(false,eval a X.env)::starEach [.Name x p2] X.env:=by rfl) (hs2:starEach [.Name x p2] X.env=(false,eval (.Name x p2) X.env)::starEach [] X.env:=by rfl) (hpl:(backTo pos (starEach [.Name x p2] X.env)).any (·.1)=false:=by rfl) :
  CE X (.Call (.Name "isinstance" p) [a,.Name x p2] [] pos) (ly f da) :=
 PE.imp (ir Cn hg1 hi PyProof.Rows.boot_isinstance (gy ha (gy (me (v:=.ref D) hg hm rfl hd) qi hs2) hs1) (by decide) (by decide) hs1 hpl) λσ H Q h=>tj hf h
theorem Gn(hi:X.mg "isinstance"=none)(hm:X.mg x=none)(hv:bootBuiltins x=some (.type Tn))(hf:∀n b,f n=some b->∃C,KCls X.K n C/\PySem.W.kitOne X.K (.ref C) (.type Tn)=some b)(ha:CE X a da)(hg1:Gl X "isinstance":=by rfl)(hg:Gl X x:=by rfl)(hn:x≠"__name__":=by decide)(hd:(x==("__debug__":Str))=false:=by decide)
  (hs1:starEach [a,.Name x p2] X.env=(false,eval a X.env)::starEach [.Name x p2] X.env:=by rfl) (hs2:starEach [.Name x p2] X.env=(false,eval (.Name x p2) X.env)::starEach [] X.env:=by rfl) (hpl:(backTo pos (starEach [.Name x p2] X.env)).any (·.1)=false:=by rfl) :
  CE X (.Call (.Name "isinstance" p) [a,.Name x p2] [] pos) (ly f da) :=
 PE.imp (ir yX hg1 hi PyProof.Rows.boot_isinstance (gy ha (gy (wF (v:=.ty Tn) hg hm hv rfl hn hd) qi hs2) hs1) (by decide) (by decide) hs1 hpl) λσ H Q h=>tj hf h
end
end Fw
namespace Fw.H
open PySem Fw
structure Row(m:Int)(n:Int)(ns:List Int):Prop where
 len:(ns.length:Int)=n
 lo:∀x∈ns,0≤x
 hi:∀x∈ns,x<m
theorem Row.nil(m:Int):Row m ((0:Nat):Int) []:=⟨rfl,by simp,by simp⟩
def LV(p:Int):Prop:=p∈([2,3,5,7,11,13,17,19,23,29,31,37,41,43,47,53,59,61,67,71,73,79,83,89,97]:List Int)
theorem LV.pos{p:Int}(h:LV p):2≤p/\p≤97:=by
 have key:∀p∈([2,3,5,7,11,13,17,19,23,29,31,37,41,43,47,53,59,61,67,71,73,79,83,89,97]:List Int),2≤p/\p≤97:=by decide +kernel
 exact key p h
end Fw.H
namespace Fw
open PySem PySem.Spec PyProof.Rows L2
structure Gf(K:PySem.W.Frag)(mg:Str->Option Value)(x:Str)(st:Stmt)(ps:List Str)(f:Addr)(fd:FuncData):Prop where
 F:Fun K x x st f fd
 b:Binds K fd ps []
 m:mg x=some (.ref f)
noncomputable def iD (scope so : Scope) : Scope := { scope with names := scope.names.map fun (n, k) => if (k == .free && so.kind == .function && so.names.lookup n == some .cell) then (n, .cell) else (n, k) }
def vi(N N':List Str)(scope so:Scope)(mp:List (Option Nat)):Prop :=
 scope.kind=.function/\(scope.names.filter λy=>y.2==NameKind.cell).length≤1/\(scope.names.map (·.1)).Nodup/\(∀y∈scope.names,(y.2=.local->scope.names.lookup y.1=some .local)/\(y.2=.free->(so.names.lookup y.1=some .cell∨so.names.lookup y.1=some .free) /\
  ((iD scope so).names.lookup y.1=some .cell∨(iD scope so).names.lookup y.1=some .free)))/\mp.length=N'.length /\
 ∀q∈mp.zip N',match q.1 with
  | none=>True
  | some j=>N[j]?=some q.2/\(q.2,NameKind.free)∈scope.names/\(so.names.lookup q.2=some .cell∨so.names.lookup q.2=some .free)
instance (N N':List Str) (scope so:Scope) (mp:List (Option Nat)):Decidable (vi N N' scope so mp):=by
 unfold vi
 have:∀q:Option Nat×Str,Decidable (match q.1 with
  | none=>True
  | some j=>N[j]?=some q.2/\(q.2,NameKind.free)∈scope.names/\(so.names.lookup q.2=some .cell∨so.names.lookup q.2=some .free)):=λq=>by
  cases q.1<;>infer_instance
 infer_instance
theorem jm{α:Type}{x:Str}{k:α}:∀{l:List (Str×α)},(l.map (·.1)).Nodup->(x,k)∈l->l.lookup x=some k
 | [],_,h=>by cases h
 | (y,k')::l,nd,h=>by
  have nd':=List.nodup_cons.mp (by simpa using nd:(y::l.map (·.1)).Nodup)
  rw[List.lookup_cons]
  rcases List.mem_cons.mp h with e|h
  ·cases e;simp
  ·have:(x==y)=false:=by
    have:x≠y:=λq=>nd'.1 (List.mem_map.mpr ⟨_,h,q⟩)
    simpa using this
   rw[this]
   exact jm nd'.2 h
theorem dA{X:Cx}{N':List Str}{scope:Scope}{mp:List (Option Nat)}(so:Scope)(hso:X.env.scope=so)(N:List Str)(hN:X.N=N)(h:vi N N' scope so mp):dR X N' scope mp:=by
 subst hso
 subst hN
 obtain⟨h1,hc1,hnd,h2,h3,h4⟩:=h
 have er:(relabel scope X.env).names=(iD scope X.env.scope).names:=rfl
 refine⟨h1,hc1,hnd,λy hy=>(h2 y hy).1,λy hy hf=>((h2 y hy).2 hf).1,h3,λi j hij=>?_,λx hx=>?_,λx hx=>?_⟩
 ·have hi:i<mp.length:=(List.getElem?_eq_some_iff.mp hij).1
  have hz:(mp.zip N')[i]?=some (some j,N'[i]'(by omega)):=by
   rw[List.getElem?_zip_eq_some]
   exact⟨hij,by simp⟩
  have:=h4 _ (List.mem_of_getElem? hz)
  exact⟨_,by simp,this⟩
 ·rw[er];exact((h2 _ hx).2 rfl).2
 ·rw[er] at hx
  have mem:∀k,(iD scope X.env.scope).names.lookup x=some k->(k=.cell∨k=.free)->(x,NameKind.free)∈scope.names∨scope.names.lookup x=some .cell:=λk hk hkk=>by
   have hm:=PySem.mem_of_lookup hk
   unfold iD at hm
   obtain⟨⟨n,k'⟩,hm1,hm2⟩:=List.mem_map.mp hm
   by_cases hc:(k'==.free && X.env.scope.kind==.function && X.env.scope.names.lookup n==some .cell)=true
   ·simp only[hc,if_true] at hm2
    cases hm2
    have:k'=.free:=by
     simp only[Bool.and_eq_true,beq_iff_eq] at hc
     exact hc.1.1
    subst this
    exact .inl hm1
   ·simp only[hc,if_false] at hm2
    cases hm2
    rcases hkk with rfl|rfl
    ·exact .inr (jm hnd hm1)
    ·exact .inl hm1
  rcases hx with hx|hx
  ·exact mem _ hx (.inl rfl)
  ·exact mem _ hx (.inr rfl)
theorem JC{K:PySem.W.Frag}{fn:FN}{H:Hp}{a:Addr}{ns:List Int}(JD:∀ns:List Int,ns.length≤63->∃μ',fn [.val (.lst (ns.map T.int))] []=.ok (.val (.bl true)) μ')(hl:ns.length≤63)(hS:SqL K H a (ns.map V.int))(hO:Fe H) :
  spD K fn 1 [.ref a] H (λv _=>v=.bl true) (λ_ _ _=>False):=by
 obtain⟨μ',h⟩:=JD ns hl
 refine⟨rfl,H,[],[],_,_,μ',⟨aN.refl _,rfl,List.nodup_nil,λk a h=>by simp at h,λk b t a h=>by simp at h,λb xs q=>by rcases hO b with z|⟨_,_,z⟩<;>(rw[z] at q;cases q)⟩,.cons ?_ .nil,h,λv H' F' α' _ _ o=>Rep.mU (K:=K) (F:=F') o⟩
 show Rep K H (.lst (ns.map T.int)) (.ref a)
 rw[Rep]
 exact⟨a,_,rfl,hS,aD.wX ns⟩
section
variable{K:PySem.W.Frag}
theorem Now.l5{F H:Hp}{v:V}{ts:List T}(h:Now K F H v (.lst ts)):∃a vs,v=.ref a/\SqL K H a vs/\aD K F ts vs:=h
theorem Now.vj{F H:Hp}{v:V}{ts:List T}(h:Now K F H v (.tup ts)):∃a vs,v=.ref a/\SqT K F a vs/\aD K F ts vs:=h
theorem jL{r:R2}{f:T->T->Option T}(g:Int->Int->T)(gV:Int->Int->V)(C:Int->Int->Prop)(hr:∀i j H Q,C i j->Q (gV i j) H->r (.int i) (.int j) H Q)
  (hf:∀t u w,f t u=some w->∃i j,t=.int i/\u=.int j/\w=g i j/\C i j) (hg:∀F i j,Rep K F (g i j) (gV i j)):cF K r f:=by
 intro F H v u t t' w Q s hv hu hw q
 obtain⟨i,j,rfl,rfl,rfl,hc⟩:=hf _ _ _ hw
 cases hv.int
 cases hu.int
 exact hr i j H Q hc (q _ H F a_.refl (hg F i j))
theorem Gp:cF K (rI0 λi j=>.int (i-j)) k_:=jL (λi j=>.int (i-j)) (λi j=>.int (i-j)) (λ_ _=>True) (λi j H Q _ q=>⟨i,j,rfl,rfl,q⟩)
 (λt u w h=>by cases t<;>cases u<;>first|(cases h;exact⟨_,_,rfl,rfl,rfl,trivial⟩)|cases h) λF i j=>Rep.ij _
theorem Gq:cF K (rI (λ_ j=>0<j) λi j=>.int (i%j)) bp:=jL (λi j=>.int (i%j)) (λi j=>.int (i%j)) (λ_ j=>0<j) (λi j H Q c q=>⟨i,j,rfl,rfl,c,q⟩)
 (λt u w h=>by
  cases t<;>cases u<;>first|cases h|skip
  rename_i i j
  by_cases hj:0<j
  ·have h:(if 0<j then some (T.int (i%j)) else none)=some w:=h
   rw[if_pos hj] at h
   cases h
   exact⟨_,_,rfl,rfl,rfl,hj⟩
  ·have h:(if 0<j then some (T.int (i%j)) else none)=some w:=h
   rw[if_neg hj] at h;cases h) λF i j=>Rep.ij _
theorem Gr:cF K (rI IH λi j=>.int (i / j)) cB:=jL (λi j=>.int (i / j)) (λi j=>.int (i / j)) IH (λi j H Q c q=>⟨i,j,rfl,rfl,c,q⟩)
 (λt u w h=>by
  cases t<;>cases u<;>first|cases h|skip
  rename_i i j
  have h:(if 0<j/\j<1073741824 then some (T.int (i / j)) else none)=some w:=h
  by_cases hj:0<j/\j<1073741824
  ·rw[if_pos hj] at h
   cases h
   exact⟨_,_,rfl,rfl,rfl,hj⟩
  ·rw[if_neg hj] at h;cases h) λF i j=>Rep.ij _
theorem Co:cF K (rI0 λi j=>.bl (decide (i<j))) fLt:=jL (λi j=>.bl (decide (i<j))) (λi j=>.bl (decide (i<j))) (λ_ _=>True) (λi j H Q _ q=>⟨i,j,rfl,rfl,q⟩)
 (λt u w h=>by cases t<;>cases u<;>first|(cases h;exact⟨_,_,rfl,rfl,rfl,trivial⟩)|cases h) λF i j=>Rep.bl' _
theorem qH:cF K (rI0 λi j=>.bl (decide (i≤j))) fLe:=jL (λi j=>.bl (decide (i≤j))) (λi j=>.bl (decide (i≤j))) (λ_ _=>True) (λi j H Q _ q=>⟨i,j,rfl,rfl,q⟩)
 (λt u w h=>by cases t<;>cases u<;>first|(cases h;exact⟨_,_,rfl,rfl,rfl,trivial⟩)|cases h) λF i j=>Rep.bl' _
theorem JE:cF K (rI0 λi j=>.bl (decide (j<i))) fGt:=jL (λi j=>.bl (decide (j<i))) (λi j=>.bl (decide (j<i))) (λ_ _=>True) (λi j H Q _ q=>⟨i,j,rfl,rfl,q⟩)
 (λt u w h=>by cases t<;>cases u<;>first|(cases h;exact⟨_,_,rfl,rfl,rfl,trivial⟩)|cases h) λF i j=>Rep.bl' _
end
section
variable{X:Cx}{a b c:Expr}{da db dc:D}{pos p p2:Pos}
theorem nc(ha:CE X a da)(hb:CE X b db):CE X (.BinOp a .Sub b pos) (ah k_ da db):=ll IJ Gp ha hb
theorem bH(ha:CE X a da)(hb:CE X b db):CE X (.BinOp a .Mod b pos) (ah bp da db):=ll IL Gq ha hb
theorem dB(ha:CE X a da)(hb:CE X b db):CE X (.BinOp a .FloorDiv b pos) (ah cB da db):=ll EY Gr ha hb
theorem LW(ha:CE X a da)(hb:CE X b db):CE X (.Compare a [.LtE] [b] pos) (ah fLe da db):=mZ wJ qH (fV _) ha hb
theorem w8(ha:CE X a da)(hb:CE X b db):CT X (.Compare a [.Lt] [b] pos) (ah fLt da db):=iA HA Co (fV _) ha hb
theorem Cp(ha:CE X a da)(hb:CE X b db):CT X (.Compare a [.Gt] [b] pos) (ah fGt da db):=iA K4 JE (fV _) ha hb
end
end Fw
namespace L2
open PySem PySem.Spec PyProof.Rows
section
variable{X:Cx}
def Cq(K:PySem.W.Frag):R2:=λx y H Q=>∃a b xs ys,x=.ref a/\y=.ref b/\SqT K H a xs/\SqT K H b ys/\xs.length+ys.length≤sizeLine /\
 (xs=[]->Q (.ref b) H)/\(xs≠[]->ys=[]->Q (.ref a) H)/\(xs≠[]->ys≠[]->∀p,H p=none->Q (.ref p) (upd H p (.tup (xs++ys))))
theorem Cr:OpR X (binaryOp .Add) (Cq X.K):=by
 intro pins s σ H x y v u Q I rx ry h
 obtain⟨a,b,xs,ys,hx0,hy0,ha,hb,hz,q0,q1,q2⟩:=h
 by_cases hx:xs=[]
 ·subst hx0;subst hy0
  cases rx
  cases ry
  obtain⟨its,r1,p1,_⟩:=I.tuple ha
  obtain⟨mK,r2,p2,_⟩:=I.tuple hb
  obtain⟨⟨cls,dd,data,sl⟩,ho,hc,n,hd⟩:=id p1
  obtain⟨⟨K8,dd2,data2,sl2⟩,ho2,hc2,n2,hd2⟩:=id p2
  simp only at hc hd hc2 hd2
  subst hc hd hc2 hd2
  have e:its=[]:=r1.mh.mpr hx
  exact concat_meets ⟨_,ho,rfl⟩ ⟨_,ho2,rfl⟩ noFill_tuple_add seq_tuple_add PySem.F.slot_tuple_add PySem.F.entry_tuple_add (PySem.F.args_tuple_add_2 _ _)
   (tuple_addW0 a b its.toArray mK.toArray n n2 dd dd2 sl sl2 (by simp[e])) ⟨ho,ho2,.ref b,H,I,rfl,q0 hx⟩
 ·exact E_ pins s σ H x y v u Q I rx ry ⟨a,b,xs,ys,hx0,hy0,ha,hb,hx,hz,q1 hx,q2 hx⟩
def Cs(K:PySem.W.Frag):R2:=λx y H Q=>∃l b xs zs,x=.ref l/\y=.ref b/\SqL K H l xs/\SqL K H b zs/\xs.length+zs.length≤sizeLine/\∀p,H p=none->Q (.ref p) (upd H p (.lst (xs++zs)))
theorem w_:OpR X (binaryOp .Add) (Cs X.K):=by
 intro pins s σ H x y v u Q I rx ry h
 obtain⟨l,b,xs,zs,rfl,rfl,hA,hB,hz,q⟩:=h
 cases rx
 cases ry
 obtain⟨its,r,p1,_⟩:=I.list hA
 obtain⟨mK,r2,p2,_⟩:=I.list hB
 obtain⟨⟨cls,dd,data,sl⟩,ho,hc,n,hd⟩:=id p1.isList
 obtain⟨⟨K8,dd2,data2,sl2⟩,ho2,hc2,n2,hd2⟩:=id p2.isList
 simp only at hc hd hc2 hd2
 subst hc hd hc2 hd2
 have hl:=r.length
 have hl2:=r2.length
 have e:its.toArray++mK.toArray=(its++mK).toArray:=by simp
 refine concat_meets ⟨_,ho,rfl⟩ ⟨_,ho2,rfl⟩ noFill_list_add seq_list_add PySem.F.slot_list_add PySem.F.entry_list_add (PySem.F.args_list_add_2 _ _)
  (list_addW l b its.toArray mK.toArray n n2 dd dd2 sl sl2 (by rw[List.size_toArray,List.size_toArray];lia)) ⟨ho,ho2,?_⟩
 rw[e]
 exact⟨.ref _,_,I.yh (t':=s.toks) (r.append r2) (by rw[List.length_append];lia),rfl,q _ I.fresh⟩
end
end L2
namespace Fw
open PySem PySem.Spec PyProof.Rows L2
section
variable{K:PySem.W.Frag}
theorem ng:szL=sizeLine:=rfl
theorem aD.nil_of{F:Hp}{ts:List T}{vs:List V}(h:aD K F ts vs)(e:vs=[]):ts=[]:=by
 have:=h.length
 subst e
 exact List.length_eq_zero_iff.mp (by simpa using this)
theorem xa{F H:Hp}{ts:List T}{vs:List V}{Q:VK}{p:Addr}(s:aN F H)(hp:H p=none)(r:aD K F ts vs)(q:∀v' H' F',a_ F H F' H'->Rep K F' (.lst ts) v'->Q v' H'):Q (.ref p) (upd H p (.lst vs)):=by
 have g:a_ F H (upd F p (.lst vs)) (upd H p (.lst vs)):=a_.new hp
 refine q _ _ _ g ?_
 rw[Rep]
 exact⟨p,vs,rfl,SqL.of aH,aD.mono (g.same s) _ _ r⟩
theorem xb{F H:Hp}{ts:List T}{vs:List V}{Q:VK}{p:Addr}(s:aN F H)(hp:H p=none)(r:aD K F ts vs)(q:∀v' H' F',a_ F H F' H'->Rep K F' (.tup ts) v'->Q v' H'):Q (.ref p) (upd H p (.tup vs)):=by
 have g:a_ F H (upd F p (.tup vs)) (upd H p (.tup vs)):=a_.new hp
 refine q _ _ _ g ?_
 rw[Rep]
 exact⟨p,vs,rfl,SqT.of aH,aD.mono (g.same s) _ _ r⟩
theorem qI{F:Hp}{a:Addr}{ts:List T}{vs:List V}(h:SqT K F a vs)(r:aD K F ts vs):Rep K F (.tup ts) (.ref a):=by
 rw[Rep];exact⟨a,vs,rfl,h,r⟩
theorem Gs:cF K (λx y H Q=>(rI0 λi j=>.int (i+j)) x y H Q∨(λx y H Q=>∃i j,x=.str i/\y=.str j/\i.length+j.length≤sizeLine/\Q (.str (i++j)) H) x y H Q∨Cq K x y H Q∨Cs K x y H Q) av:=by
 intro F H v u t t' w Q s hv hu hw q
 cases t with
 | int i =>
  cases t' with
  | int j =>
   cases hw
   cases hv.int
   cases hu.int
   exact .inl ⟨i,j,rfl,rfl,q _ H F a_.refl (Rep.ij _)⟩
  | _=>cases hw
 | str i =>
  cases t' with
  | str j =>
   have hw:(if i.length+j.length≤szL then some (T.str (i++j)) else none)=some w:=hw
   by_cases hz:i.length+j.length≤szL
   ·rw[if_pos hz] at hw
    cases hw
    cases hv.str
    cases hu.str
    exact .inr (.inl ⟨i,j,rfl,rfl,hz,q _ H F a_.refl (Rep.u6 _)⟩)
   ·rw[if_neg hz] at hw;cases hw
  | _=>cases hw
 | tup xs =>
  cases t' with
  | tup ys =>
   have hw:(if xs.length+ys.length≤szL then some (T.tup (xs++ys)) else none)=some w:=hw
   by_cases hz:xs.length+ys.length≤szL
   ·rw[if_pos hz] at hw
    cases hw
    obtain⟨a,vs,rfl,ha,ra⟩:=hv.vj
    obtain⟨b,us,rfl,hb,rb⟩:=hu.vj
    refine .inr (.inr (.inl ⟨a,b,vs,us,rfl,rfl,aN.jh s ha,aN.jh s hb,?_,λe=>?_,λe e2=>?_,λe e2 p hp=>?_⟩))
    ·have:=ra.length;have:=rb.length;rw[ng] at hz;lia
    ·refine q _ H F a_.refl ?_
     rw[ra.nil_of e,List.nil_append]
     exact qI hb rb
    ·refine q _ H F a_.refl ?_
     rw[rb.nil_of e2,List.append_nil]
     exact qI ha ra
    ·exact xb s hp (ra.append rb) q
   ·rw[if_neg hz] at hw;cases hw
  | _=>cases hw
 | lst xs =>
  cases t' with
  | lst ys =>
   have hw:(if xs.length+ys.length≤szL then some (T.lst (xs++ys)) else none)=some w:=hw
   by_cases hz:xs.length+ys.length≤szL
   ·rw[if_pos hz] at hw
    cases hw
    obtain⟨a,vs,rfl,ha,ra⟩:=hv.l5
    obtain⟨b,us,rfl,hb,rb⟩:=hu.l5
    exact .inr (.inr (.inr ⟨a,b,vs,us,rfl,rfl,ha,hb,by have:=ra.length;have:=rb.length;rw[ng] at hz;lia,λp hp=>xa s hp (ra.append rb) q⟩))
   ·rw[if_neg hz] at hw;cases hw
  | _=>cases hw
 | _=>cases hw
end
section
variable{X:Cx}{a b c:Expr}{da db dc:D}{pos p p2:Pos}
theorem aA(ha:CE X a da)(hb:CE X b db):CE X (.BinOp a .Add b pos) (ah av da db):=ll (II.or (uR.or (Cr.or w_))) Gs ha hb
end
section
variable{K:PySem.W.Frag}
theorem Gu:cF K (rI AU λi j=>.int (i*j)) cg:=jL (λi j=>.int (i*j)) (λi j=>.int (i*j)) AU (λi j H Q c q=>⟨i,j,rfl,rfl,c,q⟩)
 (λt u w h=>by
  unfold cg at h
  cases t<;>cases u<;>first|cases h|skip
  rename_i i j
  have h:(if (-(2 ^ 64)<i/\i<2 ^ 64)∨(-(2 ^ 64)<j/\j<2 ^ 64) then some (T.int (i*j)) else none)=some w:=h
  by_cases hj:(-(2 ^ 64)<i/\i<2 ^ 64)∨(-(2 ^ 64)<j/\j<2 ^ 64)
  ·rw[if_pos hj] at h
   cases h
   exact⟨_,_,rfl,rfl,rfl,hj⟩
  ·rw[if_neg hj] at h;cases h) λF i j=>Rep.ij _
theorem aD.atI{F:Hp}{ts:List T}{vs:List V}{i:Int}{t:T}(h:aD K F ts vs)(e:Fw.atI ts i=some t):∃v,L2.atI vs i=some v/\Rep K F t v:=by
 have hl:=h.length
 unfold Fw.atI at e
 obtain⟨j,h1,h2⟩:=Option.bind_eq_some_iff.mp e
 obtain⟨v,hv,rv⟩:=h.get h2
 refine⟨v,?_,rv⟩
 unfold L2.atI
 have:L2.ixN vs.length i=some j:=by rw[← hl];exact h1
 rw[this]
 exact hv
theorem Paired.atI{α β:Type}{P:α->β->Prop}{xs:List α}{ys:List β}{i:Int}{y:β}(h:Paired P xs ys)(e:Fw.atI ys i=some y):∃x,L2.atI xs i=some x/\P x y:=by
 have hl:=h.length
 unfold Fw.atI at e
 obtain⟨j,h1,h2⟩:=Option.bind_eq_some_iff.mp e
 have get:∀{xs:List α}{ys:List β}{j:Nat}{y:β},Paired P xs ys->ys[j]?=some y->∃x,xs[j]?=some x/\P x y:=by
  intro xs ys j y o
  induction o generalizing j with
  | nil=>intro e;simp at e
  | cons r _ ih =>
   intro e
   cases j with
   | zero=>simp at e;subst e;exact⟨_,rfl,r⟩
   | succ j =>
    obtain⟨v,h1,h2⟩:=ih (j:=j) (by simpa using e)
    exact⟨v,by simpa using h1,h2⟩
 obtain⟨v,hv,rv⟩:=get h h2
 refine⟨v,?_,rv⟩
 unfold L2.atI
 have:L2.ixN xs.length i=some j:=by rw[hl];exact h1
 rw[this]
 exact hv
end
section
variable{X:Cx}{a b c:Expr}{da db dc:D}{pos p p2:Pos}
theorem iE(ha:CE X a da)(hb:CE X b db):CE X (.BinOp a .Mult b pos) (ah cg da db):=ll IK Gu ha hb
theorem aG(ha:CE X a da)(hb:CE X b db)(hp:wL b:=by intro _ _;rfl):CE X (.Subscript a b pos) (aF da db) :=
 PE.imp (La IU ha hb hp) λσ H Q ao=>by
  obtain⟨F,α,e,μ,S,h⟩:=ao
  refine⟨F,α,e,μ,S,?_⟩
  refine(R.wp_bind h).mono (λx μ1 h v H1 F1 α1 x1 S1 o1=>⟨F1,α1,e,μ1,S1,?_⟩) λ_ _ h=>h
  refine(R.wp_bind h).mono (λy μ2 h v2 H2 F2 α2 x2 S2 o2=>?_) λ_ _ h=>h.mono x1
  obtain⟨w,h9,post⟩:=R.aT h
  obtain⟨u,hu,h⟩:=Option.bind_eq_some_iff.mp h9
  have nu:=a5 S2.st o2 hu
  have fin:∀{v'},cU X.K F2 α2 v' w->Q v' H2:=λ{v'} o=>post v' H2 F2 α2 (x1.trans x2) S2 o
  have o1':=o1.mono x2.same x2.pre
  have gen:∀t,rd μ2 x=some t->ap1 (λt=>sG t u) (some t)=some w->rIx X.K v v2 H2 Q:=λt hr h=>by
   obtain⟨t',w',e1,h,rfl⟩:=k8 h
   cases e1
   have nt:=a5 S2.st o1' hr
   cases t with
   | lst ts =>
    cases u with
    | int i =>
     cases nu.int
     obtain⟨a,vs,rfl,hq,hl⟩:=nt.l5
     obtain⟨v',g1,g2⟩:=hl.atI h
     exact .inl ⟨a,vs,i,v',rfl,rfl,hq,g1,fin g2⟩
    | _=>cases h
   | tup ts =>
    cases u with
    | int i =>
     cases nu.int
     obtain⟨a,vs,rfl,hq,hl⟩:=nt.vj
     obtain⟨v',g1,g2⟩:=hl.atI h
     exact .inr (.inl ⟨a,vs,i,v',rfl,rfl,aN.jh S2.st.ext hq,g1,fin g2⟩)
    | _=>cases h
   | str z =>
    cases u with
    | int i =>
     cases nu.int
     cases nt.str
     have h:(if z.length≤szL then (Fw.atI z.cps.toList i).map λc=>T.str ⟨#[c]⟩ else none)=some w':=h
     by_cases hz:z.length≤szL
     ·rw[if_pos hz] at h
      obtain⟨ch,g1,rfl⟩:=Option.map_eq_some_iff.mp h
      exact .inr (.inr ⟨z,i,ch,rfl,rfl,hz,g1,fin (Rep.u6 (K:=X.K) (F:=F2) _)⟩)
     ·rw[if_neg hz] at h;cases h
    | _=>cases h
   | _=>cases u<;>cases h
  cases x with
  | val t=>exact gen t rfl (by unfold iy at h;exact h)
  | cel k =>
   cases q:rd μ2 (.cel k) with
   | none=>unfold iy at h;simp only at h;rw[q] at h;cases h
   | some t=>exact gen t q (by unfold iy at h;simp only at h;rw[q] at h;exact h)
  | box xs =>
   cases u with
   | int i =>
    cases nu.int
    obtain⟨y',h1,rfl⟩:=Option.map_eq_some_iff.mp (show(Fw.atI xs i).map pick=some w from h)
    obtain⟨a,vs,rfl,hq,hp⟩:=o1'
    obtain⟨v',g1,g2⟩:=Paired.atI hp h1
    refine .inr (.inl ⟨a,vs,i,v',rfl,rfl,aN.jh S2.st.ext hq,g1,fin ?_⟩)
    cases y' with
    | inl t=>exact g2
    | inr k=>exact g2
   | _=>cases h
theorem cy(hm:X.mg "len"=none)(ha:CE X a da)(hg:Gl X "len":=by rfl)(hs1:starEach [a] X.env=(false,eval a X.env)::starEach [] X.env:=by rfl)(hpl:(backTo pos (starEach [] X.env)).any (·.1)=false:=by rfl) :
  CE X (.Call (.Name "len" p) [a] [] pos) (cC da) :=
 PE.imp (ir (qk.or (ql.or ym)) hg hm PySem.boot_len (ag ha au hs1) (by decide) (by decide) hs1 hpl) λσ H Q ao=>by
  obtain⟨F,α,e,μ,S,h⟩:=ao
  refine pD ⟨F,α,e,μ,S,(R.wp_bind h).mono (λx μ1 h v H1 F1 α1 x1 S1 o1=>?_) λ_ _ h=>h⟩
  obtain⟨w,h9,post⟩:=R.aT h
  obtain⟨w',h,rfl⟩:=Option.map_eq_some_iff.mp h9
  have fin:∀{v'},Rep X.K F1 w' v'->Q v' H1:=λ{v'} o=>post v' H1 F1 α1 x1 S1 o
  have gen:∀t,rd μ1 x=some t->Lw t=some w'->(∃p ys,[v]=[V.ref p]/\(SqL X.K H1 p ys∨SqT X.K H1 p ys)/\Q (.int ys.length) H1)∨(∃z,[v]=[V.str z]/\z.length≤sizeLine/\Q (.int z.length) H1) ∨
    ∃d kvs,[v]=[V.ref d]/\H1 d=some (.dK kvs)/\Q (.int kvs.length) H1:=λt hr h=>by
   have nt:=a5 S1.st o1 hr
   cases t with
   | lst ts =>
    cases h
    obtain⟨a,vs,rfl,hq,hl⟩:=nt.l5
    exact .inl ⟨a,vs,rfl,.inl hq,fin (by rw[hl.length];exact Rep.ij _)⟩
   | tup ts =>
    cases h
    obtain⟨a,vs,rfl,hq,hl⟩:=nt.vj
    exact .inl ⟨a,vs,rfl,.inr (aN.jh S1.st.ext hq),fin (by rw[hl.length];exact Rep.ij _)⟩
   | str z =>
    cases nt.str
    have h:(if z.length≤szL then some (T.int z.length) else none)=some w':=h
    by_cases hz:z.length≤szL
    ·rw[if_pos hz] at h
     cases h
     exact .inr (.inl ⟨z,rfl,hz,fin (Rep.ij _)⟩)
    ·rw[if_neg hz] at h;cases h
   | dct kts =>
    cases h
    obtain⟨a,kvs,rfl,hq,hl⟩:=nt
    exact .inr (.inr ⟨a,kvs,rfl,hq,fin (by rw[hl.length];exact Rep.ij _)⟩)
   | _=>cases h
  cases x with
  | val t=>exact gen t rfl (by unfold jg at h;exact h)
  | cel k =>
   cases q:rd μ1 (.cel k) with
   | none=>unfold jg at h;simp only at h;rw[q] at h;cases h
   | some t=>exact gen t q (by unfold jg at h;simp only at h;rw[q] at h;exact h)
  | box xs =>
   cases h
   obtain⟨a,vs,rfl,hq,hp⟩:=o1
   exact .inl ⟨a,vs,rfl,.inr (aN.jh S1.st.ext hq),fin (by rw[hp.length];exact Rep.ij _)⟩
end
end Fw
set_option maxHeartbeats 4000000
namespace Fw
open PySem PySem.Spec PyProof.Rows L2
mutual
def toPy:T->PyData
 | .non=>.none
 | .bl b=>.bool b
 | .int i=>.int i
 | .str x=>.str x
 | .lst ts=>.list (toPys ts)
 | .tup ts=>.tuple (toPys ts)
 | .dct _=>.dict []
 | .exc _ _=>.dict []
 | .dtt _ _=>.dict []
def toPys:List T->List PyData
 | []=>[]
 | t::ts=>toPy t::toPys ts
end
mutual
theorem nh:∀(n:Nat) (t:T),okT n t=true->(toPy t).canLay0=true/\(toPy t).depth≤n
 | n,.non,_=>⟨by rw[toPy,PyData.canLay0],by rw[toPy,PyData.depth];exact Nat.zero_le _⟩
 | n,.bl _,_=>⟨by rw[toPy,PyData.canLay0],by rw[toPy,PyData.depth];exact Nat.zero_le _⟩
 | n,.int _,_=>⟨by rw[toPy,PyData.canLay0],by rw[toPy,PyData.depth];exact Nat.zero_le _⟩
 | n,.str x,h=>by
  unfold okT at h
  exact⟨by rw[toPy,PyData.canLay0];exact h,by rw[toPy,PyData.depth];exact Nat.zero_le _⟩
 | 0,.lst ts,h=>by rw[okT] at h;cases h
 | n+1,.lst ts,h=>by
  rw[okT] at h
  obtain⟨h1,h2⟩:=qJ n ts h
  exact⟨by rw[toPy,PyData.canLay0];exact h1,by rw[toPy,PyData.depth];lia⟩
 | 0,.tup ts,h=>by rw[okT] at h;cases h
 | n+1,.tup ts,h=>by
  rw[okT] at h
  obtain⟨h1,h2⟩:=qJ n ts h
  exact⟨by rw[toPy,PyData.canLay0];exact h1,by rw[toPy,PyData.depth];lia⟩
 | n,.dct _,h=>by unfold okT at h;cases h
 | n,.exc _ _,h=>by unfold okT at h;cases h
 | n,.dtt _ _,h=>by unfold okT at h;cases h
theorem qJ:∀(n:Nat) (ts:List T),gg n ts=true->PyData.canLayAll0 (toPys ts)=true/\PyData.depthAll (toPys ts)≤n
 | n,[],_=>⟨by rw[toPys,PyData.canLayAll0],by rw[toPys,PyData.depthAll];exact Nat.zero_le _⟩
 | n,t::ts,h=>by
  rw[gg,Bool.and_eq_true] at h
  obtain⟨h1,h2⟩:=nh n t h.1
  obtain⟨h3,h4⟩:=qJ n ts h.2
  exact⟨by rw[toPys,PyData.canLayAll0,h1,h3];rfl,by rw[toPys,PyData.depthAll];lia⟩
end
mutual
theorem vk:∀(n:Nat) (t u:T),okT n t=true->okT n u=true->PyData.eqv (toPy t) (toPy u)=eqT t u
 | n,.non,u,_,h=>by cases u<;>first|(simp[toPy,eqT,PyData.eqv];done)|(unfold okT at h;cases h)
 | n,.bl a,u,_,h=>by cases u<;>first|(simp[toPy,eqT,PyData.eqv];done)|(unfold okT at h;cases h)
 | n,.int a,u,_,h=>by cases u<;>first|(simp[toPy,eqT,PyData.eqv];done)|(unfold okT at h;cases h)
 | n,.str a,u,_,h=>by cases u<;>first|(simp[toPy,eqT,PyData.eqv];done)|(unfold okT at h;cases h)
 | 0,.lst a,u,h,_=>by rw[okT] at h;cases h
 | n+1,.lst a,u,h1,h=>by
  cases u with
  | lst b=>rw[toPy,toPy,eqT,PyData.eqv];rw[okT] at h1 h;exact qK n a b h1 h
  | dct _=>unfold okT at h;cases h
  | exc _ _=>unfold okT at h;cases h
  | dtt _ _=>unfold okT at h;cases h
  | _=>simp[toPy,eqT,PyData.eqv]
 | 0,.tup a,u,h,_=>by rw[okT] at h;cases h
 | n+1,.tup a,u,h1,h=>by
  cases u with
  | tup b=>rw[toPy,toPy,eqT,PyData.eqv];rw[okT] at h1 h;exact qK n a b h1 h
  | dct _=>unfold okT at h;cases h
  | exc _ _=>unfold okT at h;cases h
  | dtt _ _=>unfold okT at h;cases h
  | _=>simp[toPy,eqT,PyData.eqv]
 | n,.dct _,u,h,_=>by unfold okT at h;cases h
 | n,.exc _ _,u,h,_=>by unfold okT at h;cases h
 | n,.dtt _ _,u,h,_=>by unfold okT at h;cases h
theorem qK:∀(n:Nat) (ts us:List T),gg n ts=true->gg n us=true->PyData.eqvAll (toPys ts) (toPys us)=gf ts us
 | n,[],[],_,_=>by rw[toPys,PyData.eqvAll,gf]
 | n,[],u::us,_,_=>by rw[toPys,toPys,PyData.eqvAll,gf]
 | n,t::ts,[],_,_=>by rw[toPys,toPys,PyData.eqvAll,gf]
 | n,t::ts,u::us,h1,h2=>by
  rw[gg,Bool.and_eq_true] at h1 h2
  rw[toPys,toPys,PyData.eqvAll,gf,vk n t u h1.1 h2.1,qK n ts us h1.2 h2.2]
end
section
variable{X:Cx}{pins:List (Addr×Obj)}{σ:L2.St}{H:Hp}{s:Shared}
mutual
theorem iF(I:Inv X pins σ H s):∀(n:Nat) (t:T) (v:V) (u:Value),Rep X.K H t v->RelV v u->okT n t=true->∃as,Reads s.heap u (toPy t) as
 | n,.non,v,u,h,r,_=>by cases h.lh;cases r;rw[toPy];exact⟨_,.none⟩
 | n,.bl b,v,u,h,r,_=>by cases h.mU;cases r;rw[toPy];exact⟨_,.bool b⟩
 | n,.int i,v,u,h,r,_=>by cases h.BK;obtain⟨t,rfl⟩:=r;rw[toPy];exact⟨_,.int i t⟩
 | n,.str i,v,u,h,r,_=>by cases h.eH;obtain⟨t,rfl⟩:=r;rw[toPy];exact⟨_,.str i t⟩
 | 0,.lst ts,v,u,h,r,ok=>by rw[okT] at ok;cases ok
 | n+1,.lst ts,v,u,h,r,ok=>by
  rw[Rep] at h
  rw[okT] at ok
  obtain⟨a,vs,rfl,hq,hl⟩:=h
  cases r
  obtain⟨its,rv,pl,_⟩:=I.list hq
  obtain⟨o,ho,hc,m,hd⟩:=pl.isList
  obtain⟨as,ra⟩:=iG I n ts vs its hl rv ok
  rw[toPy]
  exact⟨_,.list ho hc hd (by simpa using ra)⟩
 | 0,.tup ts,v,u,h,r,ok=>by rw[okT] at ok;cases ok
 | n+1,.tup ts,v,u,h,r,ok=>by
  rw[Rep] at h
  rw[okT] at ok
  obtain⟨a,vs,rfl,hq,hl⟩:=h
  cases r
  obtain⟨its,rv,pl,_⟩:=I.tuple hq
  obtain⟨o,ho,hc,m,hd⟩:=pl
  obtain⟨as,ra⟩:=iG I n ts vs its hl rv ok
  rw[toPy]
  exact⟨_,.tuple ho hc hd (by simpa using ra)⟩
 | n,.dct _,v,u,h,r,ok=>by unfold okT at ok;cases ok
 | n,.exc _ _,v,u,h,r,ok=>by unfold okT at ok;cases ok
 | n,.dtt _ _,v,u,h,r,ok=>by unfold okT at ok;cases ok
theorem iG(I:Inv X pins σ H s):∀(n:Nat) (ts:List T) (vs:List V) (us:List Value),aD X.K H ts vs->Vals vs us->gg n ts=true->∃as,ReadsAll s.heap us (toPys ts) as
 | n,[],vs,us,h,r,_=>by
  rw[aD] at h;subst h;cases r
  rw[toPys];exact⟨_,.nil⟩
 | n,t::ts,vs,us,h,r,ok=>by
  rw[aD] at h
  obtain⟨v,vs',rfl,q,hl⟩:=h
  rw[gg,Bool.and_eq_true] at ok
  cases r with
  | cons r1 r2 =>
   obtain⟨as,ra⟩:=iF I n t v _ q r1 ok.1
   obtain⟨bs,rb⟩:=iG I n ts vs' _ hl r2 ok.2
   rw[toPys]
   exact⟨_,.cons ra rb⟩
end
end
theorem Now.rep{K:PySem.W.Frag}{F H:Hp}{v:V}{t:T}(s:aN F H)(h:Now K F H v t)(hx:(∀c n,t≠.exc c n)/\∀f k,t≠.dtt f k):Rep K H t v:=by
 cases t with
 | lst ts=>rw[Rep];obtain⟨a,vs,e,q,r⟩:=h;exact⟨a,vs,e,q,aD.mono s _ _ r⟩
 | tup ts=>rw[Rep];obtain⟨a,vs,e,q,r⟩:=h;exact⟨a,vs,e,aN.jh s q,aD.mono s _ _ r⟩
 | dct ts=>rw[Rep];obtain⟨a,vs,e,q,r⟩:=h;exact⟨a,vs,e,q,dQ.mono s _ _ r⟩
 | dtt fz ts=>rw[Rep];exact absurd rfl (hx.2 fz ts)
 | exc c n=>exact absurd rfl (hx.1 c n)
 | _=>exact Rep.mono s _ _ h
def Gv(K:PySem.W.Frag)(neg:Bool):R2:=λx y H Q=>∃t u,Rep K H t x/\Rep K H u y/\okT 100 t=true/\okT 100 u=true/\Q (.bl (if neg then !eqT t u else eqT t u)) H
section
variable{X:Cx}{a b c:Expr}{da db dc:D}{pos p p2:Pos}{k:Nat}
theorem Ct(hr:dP k X.A):OpR X (compareOp .Eq) (Gv X.K false):=by
 intro pins s σ H x y v u Q I rx ry h
 obtain⟨t,t',h1,h2,o1,o2,q⟩:=h
 obtain⟨as,r1⟩:=iF I 100 t x v h1 rx o1
 obtain⟨bs,r2⟩:=iF I 100 t' y u h2 ry o2
 obtain⟨c1,d1⟩:=nh 100 t o1
 obtain⟨c2,d2⟩:=nh 100 t' o2
 refine SeqAt.compareEq_reads r1 r2 c1 c2 (by have:=hr.un;lia) ⟨.bl _,H,I,rfl,?_⟩
 rw[vk 100 t t' o1 o2]
 exact q
theorem JF(hr:dP k X.A):OpR X (compareOp .NotEq) (Gv X.K true):=by
 intro pins s σ H x y v u Q I rx ry h
 obtain⟨t,t',h1,h2,o1,o2,q⟩:=h
 obtain⟨as,r1⟩:=iF I 100 t x v h1 rx o1
 obtain⟨bs,r2⟩:=iF I 100 t' y u h2 ry o2
 obtain⟨c1,d1⟩:=nh 100 t o1
 obtain⟨c2,d2⟩:=nh 100 t' o2
 refine SeqAt.compareNe_reads r1 r2 c1 c2 (by have:=hr.un;lia) ⟨.bl _,H,I,rfl,?_⟩
 rw[vk 100 t t' o1 o2]
 exact q
theorem km{n:Nat}{t:T}(h:okT n t=true):(∀c m,t≠.exc c m)/\∀f k,t≠.dtt f k:=⟨λc m e=>(by subst e;unfold okT at h;cases h),λc m e=>(by subst e;unfold okT at h;cases h)⟩
theorem Cu{K:PySem.W.Frag}:cF K (λx y H Q=>Gv K false x y H Q∨rEq x y H Q) fEq:=by
 intro F H v u t t' w Q s hv hu hw q
 by_cases hs:∃a b,t=.str a/\t'=.str b
 ·obtain⟨a,b,rfl,rfl⟩:=hs
  cases hw
  cases hv.str
  cases hu.str
  refine .inr ⟨rfl,?_⟩
  have e:decide (V.str a=V.str b)=(a==b):=mf
  rw[e]
  exact q _ H F a_.refl (Rep.bl' _)
 ·have hw:(if okT 100 t=true/\okT 100 t'=true then some (T.bl (eqT t t')) else none)=some w:=by
   unfold fEq at hw
   split at hw
   ·exact absurd ⟨_,_,rfl,rfl⟩ hs
   ·exact hw
  by_cases ho:okT 100 t=true/\okT 100 t'=true
  ·rw[if_pos ho] at hw
   cases hw
   exact .inl ⟨t,t',hv.rep s (km ho.1),hu.rep s (km ho.2),ho.1,ho.2,q _ H F a_.refl (Rep.bl' _)⟩
  ·rw[if_neg ho] at hw;cases hw
theorem JG{K:PySem.W.Frag}:cF K (λx y H Q=>Gv K true x y H Q∨rNe x y H Q) fNe:=by
 intro F H v u t t' w Q s hv hu hw q
 by_cases hs:∃a b,t=.str a/\t'=.str b
 ·obtain⟨a,b,rfl,rfl⟩:=hs
  cases hw
  cases hv.str
  cases hu.str
  refine .inr ⟨rfl,?_⟩
  have e:decide (V.str a=V.str b)=(a==b):=mf
  rw[e]
  exact q _ H F a_.refl (Rep.bl' _)
 ·have hw:(if okT 100 t=true/\okT 100 t'=true then some (T.bl (!eqT t t')) else none)=some w:=by
   unfold fNe at hw
   split at hw
   ·exact absurd ⟨_,_,rfl,rfl⟩ hs
   ·exact hw
  by_cases ho:okT 100 t=true/\okT 100 t'=true
  ·rw[if_pos ho] at hw
   cases hw
   exact .inl ⟨t,t',hv.rep s (km ho.1),hu.rep s (km ho.2),ho.1,ho.2,q _ H F a_.refl (Rep.bl' _)⟩
  ·rw[if_neg ho] at hw;cases hw
theorem tm(hr:dP k X.A)(ha:CE X a da)(hb:CE X b db):CE X (.Compare a [.Eq] [b] pos) (ah fEq da db):=mZ ((Ct hr).or Hz) Cu (fV _) ha hb
theorem fH(hr:dP k X.A)(ha:CE X a da)(hb:CE X b db):CT X (.Compare a [.Eq] [b] pos) (ah fEq da db):=iA ((Ct hr).or Hz) Cu (fV _) ha hb
theorem xc(hr:dP k X.A)(ha:CE X a da)(hb:CE X b db):CT X (.Compare a [.NotEq] [b] pos) (ah fNe da db):=iA ((JF hr).or K3) JG (fV _) ha hb
def TyN(K:PySem.W.Frag)(H:Hp)(v:V)(ty:String):Prop:=match v with
 | .non=>ty="NoneType"
 | .bl _=>ty="bool"
 | .int _=>ty="int"
 | .str _=>ty="str"
 | .ref a=>(ty="list"/\∃xs,SqL K H a xs)∨(ty="tuple"/\∃xs,SqT K H a xs)∨(ty="dict"/\∃kvs,H a=some (.dK kvs))
 | _=>False
theorem Cv{cn:String}:dg X (.builtin "isinstance") (λxs H Q=>∃v ty r,xs=[v,.ty cn]/\TyN X.K H v ty/\PySem.W.kitOne X.K (.type ty) (.type cn)=some r/\Q (.bl r) H):=by
 intro pins s σ H xs us Q I r h
 obtain⟨v,ty,b,rfl,hty,e,q⟩:=h
 obtain⟨u1,u2,rfl,r1,r2⟩:=vals2 r
 have r2:u2=Value.type cn:=r2
 subst r2
 have fin:∀tk,EP X pins σ Q (.bool b) { s with toks:=tk }:=λtk=>⟨.bl b,H,I.tok _,rfl,q⟩
 cases v with
 | non=>cases (show u1=Value.none from r1);cases hty;exact PySem.W.kia_one PySem.W.kitx_none I.kIn True.intro e (λz=>nomatch z) fin
 | bl y=>cases (show u1=Value.bool y from r1);cases hty;exact PySem.W.kia_one PySem.W.kitx_bool I.kIn True.intro e (λz=>nomatch z) fin
 | int i=>obtain⟨t,q⟩:=(show ∃t,u1=Value.int i t from r1);cases q;cases hty;exact PySem.W.kia_one PySem.W.kitx_int I.kIn True.intro e (λz=>nomatch z) fin
 | str y=>obtain⟨t,q⟩:=(show ∃t,u1=Value.str y t from r1);cases q;cases hty;exact PySem.W.kia_one PySem.W.kitx_str I.kIn True.intro e (λz=>nomatch z) fin
 | ref a =>
  cases (show u1=Value.ref a from r1)
  rcases hty with ⟨rfl,xs,hq⟩|⟨rfl,xs,hq⟩|⟨rfl,kvs,hq⟩
  ·obtain⟨its,_,pl,_⟩:=I.list hq
   obtain⟨o,ho,hc,_⟩:=pl.isList
   exact PySem.W.kia_one PySem.W.kitx_list I.kIn ⟨o,ho,hc⟩ e (λz=>nomatch z) fin
  ·obtain⟨its,_,pl,_⟩:=I.tuple hq
   obtain⟨o,ho,hc,_⟩:=pl
   exact PySem.W.kia_one PySem.W.kitx_tuple I.kIn ⟨o,ho,hc⟩ e (λz=>nomatch z) fin
  ·obtain⟨_,_,vs,_,pz⟩:=(show cS X.prog X.w H s.heap a (.dK kvs) from I.hok a _ hq)
   obtain⟨o,es,h1,h2,_⟩:=pz
   exact PySem.W.kia_one PySem.W.kitx_dict I.kIn ⟨o,h1,h2.1⟩ e (λz=>nomatch z) fin
 | _=>exact hty.elim
def Kd.name:Kd->String
 | .int=>"int"
 | .bool=>"bool"
 | .str=>"str"
 | .list=>"list"
 | .tuple=>"tuple"
 | .dict=>"dict"
def kdT:T->String
 | .non=>"NoneType"
 | .bl _=>"bool"
 | .int _=>"int"
 | .str _=>"str"
 | .lst _=>"list"
 | .tup _=>"tuple"
 | .dct _=>"dict"
 | .exc _ _=>""
 | .dtt _ _=>"dict"
def LX(x y:String):Option Bool:=if (Value.type x==Value.type y)=true then some true else if PySem.W.kitMeta y=true then (PySem.fastBuiltinMro x).map (·.contains (Value.type y)) else none
def Cw(x y:String):Bool:=x==y || (x=="bool" && y=="int")
theorem Cy:∀x∈["NoneType","bool","int","str","list","tuple","dict"],∀y∈["int","bool","str","list","tuple","dict"],LX x y=some (Cw x y):=by decide +kernel
theorem xf{K:PySem.W.Frag}(kd:Kd)(t:T)(hx:∀c n,t≠.exc c n):PySem.W.kitOne K (.type (kdT t)) (.type kd.name)=some (isK kd t):=by
 have e:PySem.W.kitOne K (.type (kdT t)) (.type kd.name)=LX (kdT t) kd.name:=rfl
 have h1:kdT t∈["NoneType","bool","int","str","list","tuple","dict"]:=by cases t<;>first|exact absurd rfl (hx _ _)|simp[kdT]
 have h2:kd.name∈["int","bool","str","list","tuple","dict"]:=by cases kd<;>simp[Kd.name]
 have h3:Cw (kdT t) kd.name=isK kd t:=by cases kd<;>cases t<;>first|exact absurd rfl (hx _ _)|rfl
 rw[e,Cy _ h1 _ h2,h3]
theorem JH(kd:Kd){cn:Str}(hm:X.mg "isinstance"=none)(hm2:X.mg cn=none)(hv2:bootBuiltins cn=some (.type kd.name))(ha:CE X a da)(hn2:cn≠"__name__")(hd2:(cn==("__debug__":Str))=false)(hg:Gl X "isinstance":=by rfl)(hg2:Gl X cn:=by rfl)
  (hs1:starEach [a,.Name cn p2] X.env=(false,eval a X.env)::starEach [.Name cn p2] X.env:=by rfl) (hs2:starEach [.Name cn p2] X.env=(false,eval (.Name cn p2) X.env)::starEach [] X.env:=by rfl) (hpl:(backTo pos (starEach [.Name cn p2] X.env)).any (·.1)=false:=by rfl) :
  CE X (.Call (.Name "isinstance" p) [a,.Name cn p2] [] pos) (dIs kd da) :=
 PE.imp (ir Cv hg hm (by decide +kernel) (gy ha (gy (wF (v:=.ty kd.name) hg2 hm2 hv2 rfl hn2 hd2) qi hs2) hs1) (by decide) (by decide) hs1 hpl) λσ H Q ao=>by
  obtain⟨F,α,e,μ,S,h⟩:=ao
  refine⟨F,α,e,μ,S,(R.wp_bind h).mono (λx μ1 h v H1 F1 α1 x1 S1 o1=>?_) λ_ _ h=>h⟩
  obtain⟨w,h9,post⟩:=R.aT h
  obtain⟨w',h,rfl⟩:=Option.map_eq_some_iff.mp h9
  have fin:∀{v'},Rep X.K F1 w' v'->Q v' H1:=λ{v'} o=>post v' H1 F1 α1 x1 S1 o
  have gen:∀t,rd μ1 x=some t->isT kd t=some w'->∃v' ty r,[v,V.ty kd.name]=[v',.ty kd.name]/\TyN X.K H1 v' ty/\PySem.W.kitOne X.K (.type ty) (.type kd.name)=some r/\Q (.bl r) H1:=λt hr h=>by
   have nt:=a5 S1.st o1 hr
   have hx:∀c n,t≠.exc c n:=λc n z=>by subst z;cases h
   have ew:w'=.bl (isK kd t):=by
    cases t<;>first|exact(Option.some.inj h).symm|cases h
   subst ew
   refine⟨v,kdT t,_,rfl,?_,xf kd t hx,fin (Rep.bl' _)⟩
   cases t with
   | non=>rw[show v=.non from Rep.lh (K:=X.K) (F:=F1) nt];rfl
   | bl b=>rw[nt.bl];rfl
   | int b=>rw[nt.int];rfl
   | str b=>rw[nt.str];rfl
   | lst ts=>obtain⟨a,vs,rfl,hq,_⟩:=nt.l5;exact .inl ⟨rfl,vs,hq⟩
   | tup ts=>obtain⟨a,vs,rfl,hq,_⟩:=nt.vj;exact .inr (.inl ⟨rfl,vs,aN.jh S1.st.ext hq⟩)
   | dct ts=>obtain⟨a,vs,rfl,hq,_⟩:=nt;exact .inr (.inr ⟨rfl,vs,hq⟩)
   | exc c n=>exact absurd rfl (hx c n)
   | dtt fz ts=>cases h
  cases x with
  | val t=>exact gen t rfl h
  | cel j =>
   cases q:rd μ1 (.cel j) with
   | none=>rw[wW,q] at h;cases h
   | some t=>exact gen t q (by rw[wW,q] at h;exact h)
  | box xs =>
   cases h
   obtain⟨a,vs,rfl,hq,_⟩:=o1
   exact⟨_,"tuple",_,rfl,.inr (.inl ⟨rfl,vs,aN.jh S1.st.ext hq⟩),xf kd (.tup []) (λc n z=>by cases z),fin (Rep.bl' _)⟩
theorem pM(hm:X.mg "isinstance"=none)(hm2:X.mg "str"=none)(ha:CE X a da)(hg:Gl X "isinstance":=by rfl)(hg2:Gl X "str":=by rfl)
  (hs1:starEach [a,.Name "str" p2] X.env=(false,eval a X.env)::starEach [.Name "str" p2] X.env:=by rfl) (hs2:starEach [.Name "str" p2] X.env=(false,eval (.Name "str" p2) X.env)::starEach [] X.env:=by rfl) (hpl:(backTo pos (starEach [.Name "str" p2] X.env)).any (·.1)=false:=by rfl) :
  CE X (.Call (.Name "isinstance" p) [a,.Name "str" p2] [] pos) (dIs .str da):=JH .str hm hm2 (by decide +kernel) ha (by decide +kernel) (by decide +kernel) hg hg2 hs1 hs2 hpl
end
section
variable{X:Cx}{a b c:Expr}{da db dc:D}{pos p p2:Pos}{k:Nat}
theorem tq(hm:X.mg "tuple"=none)(ha:CE X a da)(hg:Gl X "tuple":=by rfl)(hs1:starEach [a] X.env=(false,eval a X.env)::starEach [] X.env:=by rfl)(hpl:(backTo pos (starEach [] X.env)).any (·.1)=false:=by rfl) :
  CE X (.Call (.Name "tuple" p) [a] [] pos) (dUn jF da):=qB oO (by
 intro F H v t w Q s hv hw q
 cases t with
 | lst ts =>
  cases hw
  obtain⟨a,vs,rfl,hq,hl⟩:=hv.l5
  exact⟨a,vs,rfl,.inl ⟨hq,λl hp=>xb s hp hl q⟩⟩
 | tup ts =>
  cases hw
  obtain⟨a,vs,rfl,hq,hl⟩:=hv.vj
  exact⟨a,vs,rfl,.inr ⟨aN.jh s hq,q _ H F a_.refl (qI hq hl)⟩⟩
 | _=>cases hw) hm (by decide +kernel) ha hg (by decide) (by decide) hs1 hpl
theorem Cz{es:List Expr}{ds:List D}(h:CA X es ds)(hb:CE X b db)(hl:ds.length≤1000:=by decide):CF X (.BinOp (.List es p) .Mult b pos) (lZ l4 ds db):=by
 refine⟨PE.imp (AS IZ (AZ h) hb) λσ H Q ⟨F,α,e,μ,S,h⟩=>?_,λe μ x μ' h=>?_⟩
 ·refine⟨F,α,e,μ,S,(dz (R.wp_bind h)).mono (λxs μ1 ⟨hn,h⟩ vs H1 F1 α1 x1 S1 o1=>?_) λ_ _ h=>h⟩
  have h:=R.wp_bind h
  cases hz:bS xs μ1 with
  | err c μ2=>exact absurd hz (mi xs μ1 c μ2)
  | bad=>rw[hz] at h;exact h.elim
  | ok ts μ2 =>
   rw[hz] at h
   obtain⟨F2,s2,n2,S2,r2⟩:=ml S1.st o1 hz
   refine⟨lq hn o1 hl,λl hp=>?_⟩
   have x2:Ex F α H F2 α1 (upd H1 l (.lst vs)):=x1.trans ((Ex.pB s2 n2).trans (Ex.lay hp))
   refine⟨F2,α1,e,μ2,S1.of s2 (List.prefix_refl _) (S2.lay hp),(R.wp_bind h).mono (λy μ3 h v3 H3 F3 α3 x3 S3 o3=>?_) λ_ _ h=>h.mono x2⟩
   obtain⟨w,h9,t',e1,post⟩:=R.aT h
   obtain⟨t,w',ht,h,e2⟩:=k8 h9
   subst e1
   cases e2
   cases t with
   | int i =>
    cases (a5 S3.st o3 ht).int
    have h:(if -(2 ^ 63)≤i/\i<2 ^ 63/\ts.length*i.toNat≤szL then some (T.lst (List.replicate i.toNat ts).flatten) else none)=some t':=h
    by_cases hc:-(2 ^ 63)≤i/\i<2 ^ 63/\ts.length*i.toNat≤szL
    ·rw[if_pos hc] at h
     cases h
     obtain⟨g1,g2,g3⟩:=x3.fr l _ aH (S2.ext.free hp) (ck S2 hp)
     refine⟨l,i,vs,rfl,rfl,g1,hc.1,hc.2.1,by rw[← r2.length];exact hc.2.2,λp' hp'=>?_⟩
     exact post p' _ F3 α3 ((x2.trans x3).trans (Ex.lay hp')) (S3.of (aN.refl _) (List.prefix_refl _) (S3.st.lay hp')) ((x2.trans x3).was S3.st hp') (S3.st.ext.free hp') (ck S3.st hp')
      ⟨_,aH,(aD.mono x3.same _ _ r2).flat i.toNat⟩
    ·rw[if_neg hc] at h;cases h
   | _=>cases h
 ·unfold lZ at h
  obtain⟨xs,μ1,hx,h⟩:=R.aJ h
  obtain⟨ts,μ2,hz,h⟩:=R.aJ h
  obtain⟨y,μ3,hy,h⟩:=R.aJ h
  obtain⟨h9,rfl⟩:=R.jE h
  obtain⟨t,w',ht,h,rfl⟩:=k8 h9
  exact⟨_,rfl⟩
theorem gq{o e1:Expr}{do_ de:D}{apos aP:Pos}(ho:CE X o do_)(he:CE X e1 de)(cf:attributeBase o "append" X.env (eval o X.env)=eval o X.env:=by rfl)
  (fb:((backTo aP (starEach [e1] X.env)).all (λx=>!x.1) && (backToKw aP (keywordEach [] X.env)).all (λx=>x.1.isSome) && decide (([e1]:List Expr).length+([]:List Keyword).length+(if ([]:List Keyword).isEmpty then 0 else 1)<30))=true:=by rfl)
  (cD:(apos.endLine==aP.line)=true:=by rfl) (hs1:starEach [e1] X.env=(false,eval e1 X.env)::starEach [] X.env:=by rfl) (hpl:(backTo aP (starEach [] X.env)).any (·.1)=false:=by rfl)
  (hs:swapsWith (.Call (.Attribute o "append" apos) [e1] [] aP) none pos.line X.env=pure false:=by rfl) :
  CS X (.Expr (.Call (.Attribute o "append" apos) [e1] [] aP) pos) (cX do_ de) :=
 PS.imp (wG (pg PySem.F.plainAttrs_list PySem.F.slot_list_append PySem.F.type_list_append ph ho (ag he au hs1) cf fb cD hs1 hpl) hs) λD σ H ao=>by
  obtain⟨F,α,e,μ,S,h⟩:=ao
  refine⟨F,α,e,μ,S,(aU.toS h).mono (λx μ1 h v H1 F1 α1 x1 S1 o1=>?_) λ_ _ h=>h⟩
  obtain⟨_,hl,h⟩:=h.lift
  cases x with
  | cel j =>
   obtain⟨ad,ha,rfl⟩:=o1
   have hc:∃bb ts,μ1[j]?=some (bb,.lst ts):=by
    unfold oP at hl
    simp only at hl
    split at hl
    ·exact⟨_,_,by assumption⟩
    ·cases hl
   obtain⟨bb,ts,hj⟩:=hc
   have n1:=a5 S1.st (x:=.cel j) (t:=.lst ts) ⟨ad,ha,rfl⟩ (by rw[qD,hj];rfl)
   obtain⟨a',vs,e1,hq,_⟩:=n1.l5
   cases e1
   refine⟨.inl ⟨rfl,vs,hq⟩,pD ⟨F1,α1,e,μ1,S1,(aU.toS h).mono (λy μ2 h v2 H2 F2 α2 x2 S2 o2=>?_) λ_ _ h=>h.mono x1⟩⟩
   have h:=h.toS
   cases hz:frz y μ2 with
   | err c μ3=>exact absurd hz (qo y μ2 c μ3)
   | bad=>rw[hz] at h;exact h.elim
   | ok t μ3 =>
    rw[hz] at h
    obtain⟨μ4,ha4,h⟩:=aU.lift h
    obtain⟨F3,s3,n3,S3,r3⟩:=mW S2.st o2 hz
    unfold appendAt at ha4
    simp only at ha4
    have hc:∃us,μ3[j]?=some (true,.lst us)/\us.length<szL/\μ4=μ3.set j (true,.lst (us++[t])):=by
     split at ha4
     ·rename_i us hjs
      by_cases hu:us.length<szL
      ·rw[if_pos hu] at ha4
       cases ha4
       exact⟨us,hjs,hu,rfl⟩
      ·rw[if_neg hu] at ha4;cases ha4
     ·cases ha4
    obtain⟨us,hj3,hu,rfl⟩:=hc
    have ha3:α2[j]?=some ad:=i3 x2.pre ha
    obtain⟨_,ws,hw,rw'⟩:=(S3.cell j true _ ad hj3 ha3).1 rfl
    have el:=rw'.length
    refine⟨ad,ws,v2,rfl,rfl,hw,by rw[ng] at hu;omega,?_⟩
    have x3:Ex F α H F3 α2 H2:=x1.trans (x2.trans (Ex.pB s3 n3))
    exact h σ _ F3 α2 (x3.trans (Ex.put ha3)) ((S2.of s3 (List.prefix_refl _) S3).of (aN.refl _) (List.prefix_refl _) (u9 S3 hj3 ha3 ⟨_,aH,rw'.append (aD.one r3)⟩))
  | val t=>cases hl
  | box xs=>cases hl
end
end Fw
namespace Fw
open PySem L2 PyProof.Rows
section
variable{X:Cx}
end
end Fw
namespace L2
open PySem PySem.Spec PyProof.Rows
def KIt(k:Bool)(h:Heap)(i l:Addr)(n:Nat):Prop:=match k with
 | true=>h.IsListIter i l n
 | false=>h.IsTupleIter i l n
def KSq(k:Bool)(h:Heap)(l:Addr)(xs:Array Value):Prop:=match k with
 | true=>h.IsList l xs
 | false=>h.IsTuple l xs
theorem KIt.at{k:Bool}{h h':Heap}{i l:Addr}{n:Nat}(x:KIt k h i l n)(e:∀o,h.get? i=some o->h'.get? i=some o):KIt k h' i l n:=by
 cases k with
 | true=>exact Heap.IsListIter.at x e
 | false=>exact Heap.IsTupleIter.at x e
theorem KSq.at{k:Bool}{h h':Heap}{l:Addr}{xs:Array Value}(x:KSq k h l xs)(e:∀o,h.get? l=some o->h'.get? l=some o):KSq k h' l xs:=by
 cases k with
 | true=>exact Heap.IsList.at x e
 | false=>exact Heap.IsTuple.at x e
theorem KIt.ob{k:Bool}{h:Heap}{i l:Addr}{n:Nat}(x:KIt k h i l n):∃o,h.get? i=some o/\o.data=.fields #[.ref l,.int n 0]:=by
 cases k with
 | true=>obtain⟨o,a,_,b⟩:=x;exact⟨o,a,b⟩
 | false=>obtain⟨o,a,_,b⟩:=x;exact⟨o,a,b⟩
section
variable{prog:Program}{w:World}{A:Around}{E:Value->Shared->Prop}{s:Shared}
end
def HH(k:Bool)(l:Addr):Obj:={ cls:=.type (if k then "list_iterator" else "tuple_iterator"),data:=.fields #[.ref l,.int 0 0] }
section
variable{prog:Program}{w:World}{A:Around}{E:Value->Shared->Prop}{s:Shared}
end
def JI(K:PySem.W.Frag)(k:Bool)(H:Hp)(a:Addr)(xs:List V):Prop:=match k with
 | true=>SqL K H a xs
 | false=>SqT K H a xs
theorem tw{X:Cx}{pins:List (Addr×Obj)}{σ:L2.St}{H:Hp}{s:Shared}{k:Bool}{a c:Addr}{xs:List V}(I:Inv X pins σ H s)(h:JI X.K k H a xs)(hf:kZ X pins H c):a≠c:=λe=>by
 subst e
 have key:∀o,X.K.lookup a=some o->False:=λo hk=>by
  have hb:=I.ok.mod.kin a o hk
  rcases hf.2.2.2.1 with z|z
  ·exact I.ok.oM a o hb z
  ·exact absurd (Nat.lt_of_lt_of_le (Heap.lt_size hb) (Nat.le_trans I.ok.bsz z)) (Nat.lt_irrefl _)
 cases k with
 | true =>
  rcases h with (h|⟨o,h⟩)|⟨o,its,n,hk,_⟩
  ·rw[hf.1] at h;cases h
  ·rw[hf.1] at h;cases h
  ·exact key o hk
 | false =>
  have h:H a=some (.tup xs):=h
  rw[hf.1] at h;cases h
section
variable{X:Cx}{pins:List (Addr×Obj)}{σ:L2.St}{H:Hp}{s:Shared}{h':Heap}{ch:List Addr}
end
end L2
namespace Fw
open PySem PySem.Spec PyProof.Rows L2
def tDO(X:Cx)(o:Option D):TO:=λσ H Q=>∃F α e μ,Sim X.K F α e μ σ H/\(mS o e μ).wp (λi μ'=>∀H' F' α',Ex F α H F' α' H'->Sim X.K F' α' e μ' σ H'->Q i H') (bX X F α H e)
def CO(X:Cx)(e:Option Expr)(o:Option D):Prop:=PO X e (tDO X o)
theorem PO.imp{X:Cx}{e:Option Expr}{t t':TO}(h:PO X e t)(i:∀σ H Q,t' σ H Q->t σ H Q):PO X e t':=λpins s σ H Q I q=>h pins s σ H Q I (i σ H Q q)
section
variable{X:Cx}{a b:Expr}{da db:D}{pos p2:Pos}
theorem cZ:CO X none none:=PO.imp E8 λσ H Q ⟨F,α,e,μ,S,h⟩=>h H F α Ex.refl S
theorem bo(h:CE X a da):CO X (some a) (some da):=PO.imp (E9 h) λσ H Q ao=>by
 obtain⟨F,α,e,μ,S,h⟩:=ao
 refine⟨F,α,e,μ,S,(R.wp_bind h).mono (λx μ1 h v H1 F1 α1 x1 S1 o1=>?_) λ_ _ h=>h⟩
 obtain⟨i,hi,h⟩:=R.aT (R.wp_bind h)
 obtain⟨t,hr,ht⟩:=Option.bind_eq_some_iff.mp hi
 cases kh ht
 cases (a5 S1.st o1 hr).int
 exact⟨i,rfl,h H1 F1 α1 x1 S1⟩
end
section
variable{X:Cx}{a b c:Expr}{da db dc:D}{pos p p2:Pos}
theorem ni(i:Nat){y:Str}{py qh:Pos}{ik ev:Expr}{dk dv:D}(hk:CE X ik dk)(hv:CE X ev dv)(hN:X.N[i]?=some y:=by rfl)
  (hvs:Vis X.env.scope y:=by first|exact Or.inl rfl|exact Or.inr (Or.inl rfl)|exact Or.inr (Or.inr rfl)) (hd:(y==("__debug__":Str))=false:=by decide) (hcd:(y==("__classdict__":Str))=false:=by decide)
  (ha:∀v,assign (.Subscript (.Name y py) ik qh) X.env v=(do
   let ov ← holding [v] (eval (.Name y py) X.env)
   let iv ← holding [v,ov] (eval ik X.env)
   standAt qh
   holding [v,ov,iv] (setItem ov iv v)
   release [v,ov,iv] []):=by intro _;rfl)
  (hs:swapsWithSole [.Subscript (.Name y py) ik qh] ev pos.line X.env=pure false:=by rfl) (hw:swappedStores [.Subscript (.Name y py) ik qh] ev X.env=pure none:=by rfl)
  (h1:(assignEach [.Subscript (.Name y py) ik qh] X.env).map (·.2)=[assign (.Subscript (.Name y py) ik qh) X.env]:=by rfl) :
  CS X (.Assign [.Subscript (.Name y py) ik qh] ev pos) (gh i dk dv) :=
 PS.imp (AQ hv (IA (AK hN hvs hd hcd) hk set_list ha) hs hw h1) λD σ H ao=>by
  obtain⟨F,α,e,μ,S,h⟩:=ao
  refine⟨F,α,e,μ,S,(aU.toS h).mono (λy μ1 h v H1 F1 α1 x1 S1 o1=>?_) λ_ _ h=>h⟩
  obtain⟨x,hx,h⟩:=aU.lift h
  obtain⟨ov,hov,oo⟩:=S1.sl i x hx
  refine⟨ov,hov,F1,α1,e,μ1,S1,(aU.toS h).mono (λz μ2 h v2 H2 F2 α2 x2 S2 o2=>?_) λ_ _ h=>h.mono x1⟩
  obtain⟨k,hk,h⟩:=aU.lift h
  have h:=h.toS
  have nk:=a5 S2.st o2 hk
  cases hz:frz y μ2 with
  | err c μ3=>exact absurd hz (qo y μ2 c μ3)
  | bad=>rw[hz] at h;exact h.elim
  | ok t μ3 =>
   rw[hz] at h
   obtain⟨μ4,ha4,h⟩:=aU.lift h
   obtain⟨F3,s3,n3,S3,r3⟩:=mW S2.st (o1.mono x2.same x2.pre) hz
   cases x with
   | cel j =>
    obtain⟨ad,had,rfl⟩:=oo
    cases k with
    | int ki =>
     cases nk.int
     unfold setAt at ha4
     simp only at ha4
     have hc:∃us jj,μ3[j]?=some (true,.lst us)/\Fw.ixN us.length ki=some jj/\μ4=μ3.set j (true,.lst (us.set jj t)):=by
      split at ha4
      ·rename_i us hjs
       obtain⟨jj,e1,e2⟩:=Option.map_eq_some_iff.mp ha4
       exact⟨us,jj,hjs,e1,e2.symm⟩
      ·cases ha4
     obtain⟨us,jj,hj3,hjj,rfl⟩:=hc
     have ha3:α2[j]?=some ad:=i3 x2.pre had
     obtain⟨_,ws,hw,rw'⟩:=(S3.cell j true _ ad hj3 ha3).1 rfl
     have el:=rw'.length
     refine⟨ad,ws,ki,jj,rfl,rfl,hw,by rw[← el];exact hjj,?_⟩
     have x3:Ex F α H F3 α2 H2:=x1.trans (x2.trans (Ex.pB s3 n3))
     exact h σ _ F3 α2 (x3.trans (Ex.put ha3)) ((S2.of s3 (List.prefix_refl _) S3).of (aN.refl _) (List.prefix_refl _) (u9 S3 hj3 ha3 ⟨_,aH,rw'.set jj r3⟩))
    | _=>unfold setAt at ha4;cases ha4
   | val t=>cases k<;>(unfold setAt at ha4;cases ha4)
   | box xs=>cases k<;>(unfold setAt at ha4;cases ha4)
theorem nj{r r':R2}{f g:T->T->Option T}(hs:cF X.K r f)(hs':cF X.K r' g)(hf:∀t u w,f t u=some w->∃k,w=.bl k)(σ:L2.St)(H:Hp)(Q:VK)(h:tD X (eF f g da db dc) σ H Q):AX r r' (tD X da) (tD X db) (tD X dc) σ H Q:=by
 obtain⟨F,α,e,μ,S,h⟩:=h
 refine⟨F,α,e,μ,S,?_⟩
 refine(R.wp_bind h).mono (λx μ1 h v H1 F1 α1 x1 S1 o1=>⟨F1,α1,e,μ1,S1,?_⟩) λ_ _ h=>h
 refine(R.wp_bind h).mono (λy μ2 h v2 H2 F2 α2 x2 S2 o2=>?_) λ_ _ h=>h.mono x1
 obtain⟨w,h9,h⟩:=R.aT (R.wp_bind h)
 obtain⟨t,u,w',ht,hu,hfw,rfl⟩:=k9 h9
 obtain⟨k,rfl⟩:=hf t u w' hfw
 obtain⟨k',e1,h⟩:=R.aT (R.wp_bind h)
 cases e1
 refine hs F2 H2 v v2 t u _ _ S2.st.ext (a5 S2.st (o1.mono x2.same x2.pre) ht) (a5 S2.st o2 hu) hfw λv' H' F' g1 rp=>?_
 have ev:v'=.bl k:=Rep.mU rp
 subst ev
 have x3:Ex F α H F' α2 H':=x1.trans (x2.trans (g1.ex S2.st.ext))
 have S3:=S2.grow g1
 refine⟨k,rfl,?_⟩
 cases k with
 | false =>
  rw[if_neg (by decide)] at h ⊢
  exact h _ H' F' α2 x3 S3 (Rep.bl' (K:=X.K) (F:=F') false)
 | true =>
  rw[if_pos rfl] at h ⊢
  refine⟨F',α2,e,μ2,S3,(R.wp_bind h).mono (λz μ3 h v3 H3 F3 α3 x4 S4 o4=>?_) λ_ _ h=>h.mono x3⟩
  obtain⟨w,h9,post⟩:=R.aT h
  obtain⟨t2,u2,w2,ht2,hu2,hgw,rfl⟩:=k9 h9
  exact hs' F3 H3 v2 v3 t2 u2 w2 Q S4.st.ext (a5 S4.st ((o2.mono (g1.same S2.st.ext) (List.prefix_refl _)).mono x4.same x4.pre) ht2) (a5 S4.st o4 hu2) hgw λv' H' F' g rp =>
   post v' H' F' α3 (x3.trans (x4.trans (g.ex S4.st.ext))) (S4.grow g) rp
theorem JJ(t u w:T)(h:fLe t u=some w):∃k,w=.bl k:=by
 cases t<;>cases u<;>first|(cases h;exact⟨_,rfl⟩)|cases h
theorem JK(t u w:T)(h:fLt t u=some w):∃k,w=.bl k:=by
 cases t<;>cases u<;>first|(cases h;exact⟨_,rfl⟩)|cases h
theorem iH(ha:CE X a da)(hb:CE X b db)(hc:CE X c dc)(hm:lastMarks [.LtE,.LtE] [b,c]=false:=by with_unfolding_all rfl):CE X (.Compare a [.LtE,.LtE] [b,c] pos) (eF fLe fLe da db dc) :=
 PE.imp (sh wJ wJ ha hb hc hm) (nj qH qH JJ)
theorem Gw{K:PySem.W.Frag}{F H:Hp}{v:V}{t:T}(h:Now K F H v t):decide (v=.non)=(match t with|.non=>true|_=>false):=by
 cases t with
 | non=>have e:v=.non:=Rep.lh (K:=K) (F:=F) h;subst e;rfl
 | bl b=>have e:=h.bl;subst e;rfl
 | int b=>have e:=h.int;subst e;rfl
 | str b=>have e:=h.str;subst e;rfl
 | lst ts=>obtain⟨a,vs,rfl,_⟩:=h.l5;rfl
 | tup ts=>obtain⟨a,vs,rfl,_⟩:=h.vj;rfl
 | dct ts=>obtain⟨a,vs,rfl,_⟩:=h;rfl
 | exc c n=>have h:Rep K F (.exc c n) v:=h;rw[Rep] at h;obtain⟨a,rfl,_⟩:=h;rfl
 | dtt fz ts=>obtain⟨a,rfl,_⟩:=h;rfl
def LY:T->T->Option T:=λt u=>match u with
 | .non=>iw t
 | _=>none
theorem xg{K:PySem.W.Frag}:cF K (λx y H Q=>y=.non/\Q (.bl (decide (x=.non))) H) LY:=by
 intro F H v u t t' w Q s hv hu hw q
 cases t' with
 | non =>
  refine⟨Rep.lh (K:=K) (F:=F) hu,?_⟩
  rw[Gw hv]
  refine q _ H F a_.refl ?_
  cases t<;>(cases hw;exact Rep.bl' _)
 | _=>cases hw
theorem xh:ah LY da (dC .non)=dUn iw da:=by
 funext e μ
 rw[gz,qp]
 cases da e μ with
 | ok x μ1=>rw[R.aQ,R.aQ,sA,R.aQ];cases rd μ1 x<;>rfl
 | err c μ1=>rfl
 | bad=>rfl
theorem JL{j}(ha:CE X a da):CE X (.Compare a [.Is] [.Constant .none j p] pos) (dUn iw da):=xh ▸ mZ AW xg (fV _) ha gC
theorem JM{j}(ha:CE X a da):CT X (.Compare a [.Is] [.Constant .none j p] pos) (dUn iw da):=xh ▸ iA AW xg (fV _) ha gC
end
section
variable{K:PySem.W.Frag}{F:Hp}
theorem CC{p:Key×T}{r:List (Key×T)}{k:Key}(e:p.1=k):ve (p::r) k=some p.2:=by simp[ve,List.find?_cons,e]
theorem CD{p:Key×T}{r:List (Key×T)}{k:Key}(e:¬ p.1=k):ve (p::r) k=ve r k:=by simp[ve,List.find?_cons,e]
theorem dQ.val:∀{kts:List (Key×T)}{kvs:List (Key×V)} (k:Key),dQ K F kts kvs->(ve kts k=none/\lX kvs k=none)∨∃t v,ve kts k=some t/\lX kvs k=some v/\Rep K F t v
 | [],kvs,k,h=>by rw[dQ] at h;subst h;exact .inl ⟨rfl,rfl⟩
 | (k0,t)::kts,kvs,k,h=>by
  rw[dQ] at h
  obtain⟨v,Jp,rfl,q,r⟩:=h
  by_cases e:k0=k
  ·exact .inr ⟨t,v,CC (p:=(k0,t)) e,mL (p:=(k0,v)) e,q⟩
  ·rw[CD (p:=(k0,t)) e,mM (p:=(k0,v)) e]
   exact dQ.val k r
end
section
variable{X:Cx}{a b c:Expr}{da db dc:D}{pos p p2:Pos}{k:Nat}
end
end Fw
namespace L2
open PySem PySem.Spec PyProof.Rows
end L2
namespace Fw
open PySem PySem.Spec PyProof.Rows L2
section
variable{K:PySem.W.Frag}{F:Hp}
end
section
variable{X:Cx}{a b:Expr}{da db:D}{pos p:Pos}
theorem xi{id:String}{x:Str}{r:List V->Hp->VK->Prop}{g:T->T->Option T}(hc:dg X (.builtin id) r)(hs:sN X.K r g)(hm:X.mg x=none)(hv:bootBuiltins x=some (.builtin id))(ha:CE X a da)(hb:CE X b db)(hg:Gl X x:=by rfl)(hn:x≠"__name__":=by decide)
  (hdb:(x==("__debug__":Str))=false:=by decide) (hs1:starEach [a,b] X.env=(false,eval a X.env)::starEach [b] X.env:=by rfl) (hs2:starEach [b] X.env=(false,eval b X.env)::starEach [] X.env:=by rfl) (hpl:(backTo pos (starEach [b] X.env)).any (·.1)=false:=by rfl):CE X (.Call (.Name x p) [a,b] [] pos) (ah g da db) :=
 PE.imp (ir hc hg hm hv (ag ha (ag hb au hs2) hs1) hn hdb hs1 hpl) (call2 hs)
theorem JN(hm:X.mg "min"=none)(ha:CE X a da)(hb:CE X b db)(hc:X.calm=true:=by rfl)(hg:Gl X "min":=by rfl)(hs1:starEach [a,b] X.env=(false,eval a X.env)::starEach [b] X.env:=by rfl)(hs2:starEach [b] X.env=(false,eval b X.env)::starEach [] X.env:=by rfl)(hpl:(backTo pos (starEach [b] X.env)).any (·.1)=false:=by rfl) :
  CE X (.Call (.Name "min" p) [a,b] [] pos) (ah Ge da db):=xi (yd hc) (by
 intro F H v u t t' w Q s hv hu hw q
 cases t<;>cases t'<;>first|cases hw|skip
 exact⟨_,_,by rw[hv.int,hu.int],q _ H F a_.refl (Rep.ij _)⟩) hm (by decide +kernel) ha hb hg (by decide) (by decide) hs1 hs2 hpl
theorem JO(hm:X.mg "max"=none)(ha:CE X a da)(hb:CE X b db)(hc:X.calm=true:=by rfl)(hg:Gl X "max":=by rfl)(hs1:starEach [a,b] X.env=(false,eval a X.env)::starEach [b] X.env:=by rfl)(hs2:starEach [b] X.env=(false,eval b X.env)::starEach [] X.env:=by rfl)(hpl:(backTo pos (starEach [b] X.env)).any (·.1)=false:=by rfl) :
  CE X (.Call (.Name "max" p) [a,b] [] pos) (ah yL da db):=xi (yc hc) (by
 intro F H v u t t' w Q s hv hu hw q
 cases t<;>cases t'<;>first|cases hw|skip
 exact⟨_,_,by rw[hv.int,hu.int],q _ H F a_.refl (Rep.ij _)⟩) hm (by decide +kernel) ha hb hg (by decide) (by decide) hs1 hs2 hpl
end
section
variable{X:Cx}{a b:Expr}{da db:D}{pos p:Pos}{k:Nat}
end
end Fw
namespace L2
open PySem PySem.Spec PyProof.Rows
open AutoSeq1 (wpAny_loadPart')
section
variable{prog:Program}{w:World}{A:Around}{E:Value->Shared->Prop}{s:Shared}
end
end L2
namespace Fw
open PySem PySem.Spec PyProof.Rows L2
end Fw
namespace L2
open PySem PySem.Spec PyProof.Rows
end L2
namespace Fw
open PySem PySem.Spec PyProof.Rows L2
section
variable{K:PySem.W.Frag}
end
section
variable{X:Cx}{a b c:Expr}{da db dc:D}{pos p p2:Pos}{k:Nat}
theorem Gx(hm:X.mg "int"=none)(ha:CE X a da)(hg:Gl X "int":=by rfl)(hs1:starEach [a] X.env=(false,eval a X.env)::starEach [] X.env:=by rfl)(hpl:(backTo pos (starEach [] X.env)).any (·.1)=false:=by rfl) :
  CE X (.Call (.Name "int" p) [a] [] pos) (dUn yO da):=qB ye (by
 intro F H v t w Q s hv hw q
 cases t with
 | int i=>cases hw;cases hv.int;exact .inl ⟨i,rfl,q _ H F a_.refl (Rep.ij _)⟩
 | bl i=>cases hw;cases Rep.mU (K:=X.K) (F:=F) hv;exact .inr ⟨i,rfl,q _ H F a_.refl (Rep.ij _)⟩
 | _=>cases hw) hm (by decide +kernel) ha hg (by decide) (by decide) hs1 hpl
theorem JP{tg:Expr}{is:List Nat}(hg:CB X tg (u5 is))(he:CE X a da)(hs:swapsWithSole [tg] a pos.line X.env=pure false:=by rfl)(hw:swappedStores [tg] a X.env=pure none:=by rfl)
  (h1:(assignEach [tg] X.env).map (·.2)=[assign tg X.env]:=by rfl):CS X (.Assign [tg] a pos) (Jv is da) :=
 PS.imp (AQ he hg hs hw h1) λD σ H ⟨F,α,e,μ,S,h⟩ =>
  ⟨F,α,e,μ,S,(aU.toS h).mono (λx μ1 h v H1 F1 α1 x1 S1 o1=>by
   obtain⟨e',hb,hp⟩:=aU.lift h
   obtain⟨t,ht,hb⟩:=Option.bind_eq_some_iff.mp hb
   cases x with
   | val t'=>cases ht;exact⟨F1,α1,e,μ1,t,e',S1,o1,hb,λσ' S'=>hp σ' H1 F1 α1 x1 S'⟩
   | cel _=>cases ht
   | box _=>cases ht) λ_ _ h=>h⟩
end
end Fw
namespace L2
open PySem PySem.Spec PyProof.Rows
end L2
namespace Fw
open PySem PySem.Spec PyProof.Rows L2
section
variable{X:Cx}{a b c:Expr}{da db dc:D}{pos p p2 pu pc:Pos}{k:Nat}
end
section
variable{X:Cx}{a b c:Expr}{da db dc:D}{pos p p2 pu pc:Pos}{k:Nat}
end
section
variable{X:Cx}{pos:Pos}
end
section
variable{X:Cx}{pos p:Pos}{k:Nat}{a:Expr}{da:D}
end
section
variable{X:Cx}{a b:Expr}{da db:D}{pos p:Pos}{k:Nat}
theorem Gy(hm:X.mg "str"=none)(ha:CE X a da)(hg:Gl X "str":=by rfl)(hs1:starEach [a] X.env=(false,eval a X.env)::starEach [] X.env:=by rfl)(hpl:(backTo pos (starEach [] X.env)).any (·.1)=false:=by rfl) :
  CE X (.Call (.Name "str" p) [a] [] pos) (dUn yQ da):=qB qg (by
 intro F H v t w Q s hv hw q
 cases t with
 | int i =>
  by_cases hz:i.natAbs.log2<1920
  ·rw[Ci i hz] at hw
   cases hw
   cases hv.int
   exact⟨i,rfl,hz,q _ H F a_.refl (Rep.u6 _)⟩
  ·rw[yQ,if_neg hz] at hw;cases hw
 | _=>cases hw) hm (by decide +kernel) ha hg (by decide) (by decide) hs1 hpl
end
section
variable{X:Cx}{a b:Expr}{da db:D}{pos:Pos}
end
section
variable{X:Cx}{body:List Stmt}{es:List Expr}{ds:List D}{d:DS}{pos np lp:Pos}
end
end Fw
namespace L2
open PySem PySem.Spec PyProof.Rows
section
variable{prog:Program}{w:World}{A:Around}{E:Value->Shared->Prop}{s:Shared}
end
section
variable{prog:Program}{w:World}{A:Around}{E:Value->Shared->Prop}{s:Shared}
end
end L2
namespace Fw
open PySem PySem.Spec PyProof.Rows L2
theorem LZ{X:Cx}{da db dc:D}{σ:L2.St}{H:Hp}{Q:List V->Hp->Prop}(h:∃F α e μ,Sim X.K F α e μ σ H/\(da e μ).wp (λx μ1=>(db e μ1).wp (λy μ2=>(dc e μ2).wp (λz μ3=>∀v u t H' F' α',Ex F α H F' α' H'->Sim X.K F' α' e μ3 σ H'->cU X.K F' α' v x->cU X.K F' α' u y->cU X.K F' α' t z->Q [v,u,t] H') (bX X F α H e)) (bX X F α H e)) (bX X F α H e)):tDA X [da,db,dc] σ H Q:=by
 obtain⟨F,α,e,μ,S,h⟩:=h
 refine⟨F,α,e,μ,S,?_⟩
 rw[bz]
 cases q:da e μ with
 | err c μ1=>rw[q] at h;exact h
 | bad=>rw[q] at h;exact h
 | ok x μ1 =>
  rw[q] at h
  rw[R.aQ,bz]
  have h:(db e μ1).wp _ _:=h
  cases q2:db e μ1 with
  | err c μ2=>rw[q2] at h;exact h
  | bad=>rw[q2] at h;exact h
  | ok y μ2 =>
   rw[q2] at h
   rw[R.aQ,bz]
   have h:(dc e μ2).wp _ _:=h
   cases q3:dc e μ2 with
   | err c μ3=>rw[q3] at h;exact h
   | bad=>rw[q3] at h;exact h
   | ok z μ3 =>
    rw[q3] at h
    intro vs H1 F1 α1 x1 S1 o1
    cases o1 with
    | cons o1 o2 =>
     cases o2 with
     | cons o2 o3 =>
      cases o3 with
      | cons o3 o4=>cases o4;exact h _ _ _ H1 F1 α1 x1 S1 o1 o2 o3
end Fw
namespace L2
open PySem PySem.Spec PyProof.Rows
open AutoSeq1 (wpAny_loadPart')
def vm(h:Heap)(a l:Addr)(i:Int):Prop:=∃o,h.get? a=some o/\o.cls=.type "reversed"/\o.data=.fields #[.ref l,rawInt i]
theorem vm.at{h h':Heap}{a l:Addr}{i:Int}(x:vm h a l i)(e:∀o,h.get? a=some o->h'.get? a=some o):vm h' a l i:=let ⟨o,ho,r⟩:=x;⟨o,e _ ho,r⟩
section
variable{prog:Program}{w:World}{A:Around}{E:Value->Shared->Prop}{s:Shared}
end
end L2
namespace HT
open PySem PySem.Spec PyProof.Rows L2
section
variable{prog:Program}{w:World}{A:Around}{E:Value->Shared->Prop}{s:Shared}
end
end HT
namespace L2
open PySem PySem.Spec PyProof.Rows
end L2
namespace Fw
open PySem PySem.Spec PyProof.Rows L2
end Fw
namespace Fw
open PySem L2 PyProof.Rows
abbrev bmV:List Value:=[.type "ValueError",.type "Exception",.type "BaseException",.type "object"]
theorem qL{K:PySem.W.Frag}{C:Addr}(h:PySem.W.excIn K C bmV "ValueError.__new__"=true):sY K C:=⟨⟨_,_,h,by decide⟩⟩
theorem JQ{K:PySem.W.Frag}{C:Addr}{v:Value}{b:Bool}(h:PySem.W.mroIn K C v=some b):(PySem.W.clsIn K C).isSome=true:=by
 unfold PySem.W.mroIn at h
 cases q:PySem.W.clsIn K C with
 | none=>rw[q] at h;cases h
 | some cd=>rfl
theorem fI{K:PySem.W.Frag}{C:Addr}{v:Value}{b:Bool}(h:PySem.W.mroIn K C v=some b):(jK K C).contains v=b:=by
 unfold PySem.W.mroIn PySem.W.clsIn at h
 unfold jK
 split at h
 ·rename_i ho
  rw[ho]
  simp only[Option.bind_some] at h
  split at h
  ·cases h
  ·exact Option.some.inj h
 ·cases h
theorem JR{α:Type}{P:α->Prop}:∀q∈([]:List α),P q:=λ_ h=>nomatch h
theorem gG{α:Type}{P:α->Prop}{a:α}{l:List α}(h:P a)(hl:∀q∈l,P q):∀q∈a::l,P q:=λq hq=>by
 rcases List.mem_cons.mp hq with rfl|hq
 ·exact h
 ·exact hl q hq
theorem HI{R:Str}{b:Bool}{P:Str->Bool->Prop}(h:P R b):∀n b',(if n=R then some b else none)=some b'->P n b':=λn b' e=>by
 by_cases hn:n=R
 ·rw[if_pos hn] at e
  cases e
  rw[hn];exact h
 ·rw[if_neg hn] at e;cases e
theorem JS{X:Cx}{hs:List ExceptHandler}{R:Str}{d:DS}(h:CH1 X hs R d):CH X hs (λn=>if n=R then d else yC):=CH.of λn=>by
 by_cases hn:n=R
 ·rw[if_pos hn,hn];exact h
 ·rw[if_neg hn];exact Gj
abbrev nq(X:Cx):Cx:={ X with xe:=λ_ _=>False }
section
variable{X:Cx}{pins:List (Addr×Obj)}{σ:L2.St}{H:Hp}{s:Shared}
theorem vn(I:Inv X pins σ H s):Inv (nq X) pins σ H s :=
 ⟨⟨I.ok.mod,I.ok.kind,I.ok.glob,I.ok.blt,I.ok.above,I.ok.inj,I.ok.has,I.ok.cab,I.ok.hd,I.ok.frames,I.ok.stk,I.ok.exf,I.ok.bs,I.ok.bsz,I.ok.oM,I.ok.r8,I.ok.jC,I.ok.frf⟩,I.os,I.bare,I.base,I.loc,I.cell,I.free,I.df,I.pin,I.hok,I.len⟩
theorem eR(ok:X.Ok)(I:Inv (nq X) pins σ H s):Inv X pins σ H s :=
 ⟨ok,I.os,I.bare,I.base,I.loc,I.cell,I.free,I.df,I.pin,I.hok,I.len⟩
theorem tE{D:Ends}{f:Flow}(ok:X.Ok)(h:SP (nq X) pins D f s):SP X pins D f s:=by
 cases f with
 | next=>obtain⟨σ',H',I,q⟩:=h;exact⟨σ',H',eR ok I,q⟩
 | brk=>obtain⟨σ',H',I,q⟩:=h;exact⟨σ',H',eR ok I,q⟩
 | cont=>obtain⟨σ',H',I,q⟩:=h;exact⟨σ',H',eR ok I,q⟩
 | ret u=>obtain⟨v,σ',H',I,r,q⟩:=h;exact⟨v,σ',H',eR ok I,r,q⟩
end
theorem yY{X:Cx}{F H:Hp}{α:List Addr}{D:Ends}{d:DS}{e:Slots}{μ:aa}(h:aU X F α H D (cV d e μ)):aU (nq X) F α H D (d e μ):=by
 unfold cV at h
 cases q:d e μ with
 | err c e1 μ1=>rw[q] at h;exact False.elim h
 | nx e1 μ1=>rw[q] at h;exact h
 | rt y μ1=>rw[q] at h;exact h
 | bk e1 μ1=>rw[q] at h;exact h
 | ct e1 μ1=>rw[q] at h;exact h
 | bad=>rw[q] at h;exact h
theorem iI{X:Cx}{body:List Stmt}{d:DS}(h:CSs (nq X) body d):CSs X body (cV d):=by
 intro pins s σ H D I ⟨F,α,e,μ,S,hd⟩
 exact wpAny_mono (h pins s σ H D (vn I) ⟨F,α,e,μ,S,yY hd⟩) (λf s' q=>tE I.ok q) λ_ _ z=>z.elim
def L0:T->T->Option T:=λt u=>match u with
 | .bl b=>yR b t
 | _=>none
def HJ:T->T->Option T:=λt u=>match u with
 | .bl b=>m9 b t
 | _=>none
section
variable{X:Cx}{a:Expr}{da:D}{p pos:Pos}{b:Bool}
theorem JT:OpR X (compareOp .Is) (λx y H Q=>(x=.non∨∃c,x=.bl c)/\∃b,y=.bl b/\Q (.bl (decide (x=.bl b))) H):=by
 intro pins s σ H x y v u Q I rx ry h
 obtain⟨hx,b,rfl,q⟩:=h
 cases ry
 rcases hx with rfl|⟨c,rfl⟩
 ·cases rx
  exact wpAny_pure (a:=Value.bool (Value.none==Value.bool b)) (aW I q rfl)
 ·cases rx
  refine wpAny_pure (a:=Value.bool (Value.bool c==Value.bool b)) (aW I q ?_)
  cases c<;>cases b<;>rfl
theorem Gz:OpR X (compareOp .IsNot) (λx y H Q=>(x=.non∨∃c,x=.bl c)/\∃b,y=.bl b/\Q (.bl (!decide (x=.bl b))) H):=by
 intro pins s σ H x y v u Q I rx ry h
 obtain⟨hx,b,rfl,q⟩:=h
 cases ry
 rcases hx with rfl|⟨c,rfl⟩
 ·cases rx
  exact wpAny_pure (a:=Value.bool (!(Value.none==Value.bool b))) (aW I q rfl)
 ·cases rx
  refine wpAny_pure (a:=Value.bool (!(Value.bool c==Value.bool b))) (aW I q ?_)
  cases c<;>cases b<;>rfl
theorem GA{K:PySem.W.Frag}:cF K (λx y H Q=>(x=.non∨∃c,x=.bl c)/\∃b,y=.bl b/\Q (.bl (decide (x=.bl b))) H) L0:=by
 intro F H v u t t' w Q s hv hu hw q
 cases t' with
 | bl b =>
  have e:=hu.bl
  subst e
  cases t with
  | non =>
   have e:v=.non:=Rep.lh (K:=K) (F:=F) hv
   subst e
   cases hw
   exact⟨.inl rfl,b,rfl,q _ H F a_.refl (Rep.bl' _)⟩
  | bl c =>
   have e:=hv.bl
   subst e
   cases hw
   refine⟨.inr ⟨c,rfl⟩,b,rfl,?_⟩
   have e:decide (V.bl c=V.bl b)=(c==b):=by cases c<;>cases b<;>rfl
   rw[e]
   exact q _ H F a_.refl (Rep.bl' _)
  | _=>cases hw
 | _=>cases hw
theorem CG{K:PySem.W.Frag}:cF K (λx y H Q=>(x=.non∨∃c,x=.bl c)/\∃b,y=.bl b/\Q (.bl (!decide (x=.bl b))) H) HJ:=by
 intro F H v u t t' w Q s hv hu hw q
 cases t' with
 | bl b =>
  have e:=hu.bl
  subst e
  cases t with
  | non =>
   have e:v=.non:=Rep.lh (K:=K) (F:=F) hv
   subst e
   cases hw
   exact⟨.inl rfl,b,rfl,q _ H F a_.refl (Rep.bl' _)⟩
  | bl c =>
   have e:=hv.bl
   subst e
   cases hw
   refine⟨.inr ⟨c,rfl⟩,b,rfl,?_⟩
   have e:decide (V.bl c=V.bl b)=(c==b):=by cases c<;>cases b<;>rfl
   rw[e]
   exact q _ H F a_.refl (Rep.bl' _)
  | _=>cases hw
 | _=>cases hw
theorem GB:ah L0 da (dC (.bl b))=dUn (yR b) da:=by
 funext e μ
 rw[gz,qp]
 cases da e μ with
 | ok x μ1=>rw[R.aQ,R.aQ,sA,R.aQ];cases rd μ1 x<;>rfl
 | err c μ1=>rfl
 | bad=>rfl
theorem CK:ah HJ da (dC (.bl b))=dUn (m9 b) da:=by
 funext e μ
 rw[gz,qp]
 cases da e μ with
 | ok x μ1=>rw[R.aQ,R.aQ,sA,R.aQ];cases rd μ1 x<;>rfl
 | err c μ1=>rfl
 | bad=>rfl
theorem JU{j}(ha:CE X a da):CE X (.Compare a [.Is] [.Constant (.bool b) j p] pos) (dUn (yR b) da):=GB ▸ mZ JT GA (fV _) ha lS
theorem yZ{j}(ha:CE X a da):CT X (.Compare a [.IsNot] [.Constant (.bool b) j p] pos) (dUn (m9 b) da):=CK ▸ iA Gz CG (fV _) ha lS
end
abbrev nr(X:Cx)(E:Value->Shared->Prop):Cx:={ X with xe:=E }
section
variable{X:Cx}{E:Value->Shared->Prop}{pins:List (Addr×Obj)}{σ:L2.St}{H:Hp}{s:Shared}
theorem vo(I:Inv X pins σ H s):Inv (nr X E) pins σ H s :=
 ⟨⟨I.ok.mod,I.ok.kind,I.ok.glob,I.ok.blt,I.ok.above,I.ok.inj,I.ok.has,I.ok.cab,I.ok.hd,I.ok.frames,I.ok.stk,I.ok.exf,I.ok.bs,I.ok.bsz,I.ok.oM,I.ok.r8,I.ok.jC,I.ok.frf⟩,I.os,I.bare,I.base,I.loc,I.cell,I.free,I.df,I.pin,I.hok,I.len⟩
theorem bZ(ok:X.Ok)(I:Inv (nr X E) pins σ H s):Inv X pins σ H s :=
 ⟨ok,I.os,I.bare,I.base,I.loc,I.cell,I.free,I.df,I.pin,I.hok,I.len⟩
theorem tG{D:Ends}{f:Flow}(ok:X.Ok)(h:SP (nr X E) pins D f s):SP X pins D f s:=by
 cases f with
 | next=>obtain⟨σ',H',I,q⟩:=h;exact⟨σ',H',bZ ok I,q⟩
 | brk=>obtain⟨σ',H',I,q⟩:=h;exact⟨σ',H',bZ ok I,q⟩
 | cont=>obtain⟨σ',H',I,q⟩:=h;exact⟨σ',H',bZ ok I,q⟩
 | ret u=>obtain⟨v,σ',H',I,r,q⟩:=h;exact⟨v,σ',H',bZ ok I,r,q⟩
theorem nv{c:T}{ev:Value}(ok:X.Ok)(h:mX (nr X E) pins σ H c ev s):mX X pins σ H c ev s:=by
 obtain⟨n,C,hc,hm,h⟩:=h
 refine⟨n,C,hc,hm,?_⟩
 rcases h with ⟨h0,s1,h',e,vs,I,q⟩|⟨H0,s1,I,q⟩|⟨h0,e,t,B,q,⟨⟨H0,s0,I,q1,q2⟩,b,hk,hl,cv⟩⟩
 ·exact .inl ⟨h0,s1,h',e,vs,bZ ok I,q⟩
 ·exact .inr (.inl ⟨H0,s1,bZ ok I,q⟩)
 ·exact .inr (.inr ⟨h0,e,t,B,q,⟨⟨H0,s0,bZ ok I,q1,q2⟩,b,hk,hl,cv⟩⟩)
theorem CL{c:T}{ev:Value}{Q:Value->Shared->Prop}(hst:X.stack=X.env::X.outer)(hf:X.env.frame=some X.env.locals)(eo:X.calm=true)(h:mX X pins σ H c ev s)(k:∀s',mX X pins σ H c ev s'->Q ev s') :
  notedBy (model X.prog X.w) X.A X.env (cameBackBy (model X.prog X.w) X.A X.env Q) ev s:=by
 obtain⟨n,C,hc,hm,h⟩:=h
 have back:∀{e t:Addr}{B:Heap}{s1:Shared},Hel X pins σ H e t C B s1->ev=.ref e->cameBackBy (model X.prog X.w) X.A X.env Q ev s1:=λ{e t B s1} c1 he=>by
  subst he
  exact Bl hf c1 λh' c2=>k _ ⟨n,C,hc,hm,.inr (.inr ⟨eo,e,t,B,rfl,c2⟩)⟩
 rcases h with ⟨h0,s1,h',e,vs,I,hx,rfl,rfl⟩|⟨H0,s1,I,hx⟩|⟨h0,e,t,B,rfl,c1⟩
 ·exact Bk hst hf I hx λt B h4 c1=>back c1 rfl
 ·refine Bj hst hf I hx λe t C' H' B h4 he hE c1=>?_
  obtain⟨z1,z2⟩:=hE
  cases z1
  subst z2
  exact back c1 he
 ·exact yp hf c1 (back c1 rfl)
end
theorem qM{X:Cx}{st:Stmt}{d:DS}(hst:X.stack=X.env::X.outer)(hf:X.env.frame=some X.env.locals)(eo:X.calm=true)(h:∀E,PassesOwn (model X.prog X.w) X.A X.env E->CS (nr X E) st d):CS X st d:=by
 intro pins s σ H D I ⟨F,α,e,μ,S,hd⟩
 have ok:=I.ok
 let E':Value->Shared->Prop:=λev s'=>∃fC σ' H' c,mX X fC σ' H' c ev s'/\∀s2,mX X fC σ' H' c ev s2->X.xe ev s2
 have hp:PassesOwn (model X.prog X.w) X.A X.env E':=λev s' ⟨fC,σ',H',c,h1,h2⟩=>CL hst hf eo h1 λs2 h3=>⟨fC,σ',H',c,h3,h2⟩
 refine wpAny_mono (h E' hp pins s σ H D (vo I) ⟨F,α,e,μ,S,?_⟩) (λf s' q=>tG ok q) λev s' ⟨fC,σ',H',c,h1,h2⟩=>h2 s' h1
 cases q:d e μ with
 | nx e1 μ1=>rw[q] at hd;exact hd
 | rt y μ1=>rw[q] at hd;exact hd
 | bk e1 μ1=>rw[q] at hd;exact hd
 | ct e1 μ1=>rw[q] at hd;exact hd
 | bad=>rw[q] at hd;exact hd
 | err c e1 μ1 =>
  rw[q] at hd
  have hd:bX X F α H e1 c μ1:=hd
  rintro ev s' ⟨fC,σ',H',F',α',x1,S1,hfl⟩
  exact⟨fC,σ',H',c,nv ok hfl,λs2 h3=>hd ev s2 ⟨fC,σ',H',F',α',x1,S1,h3⟩⟩
end Fw
namespace L2
open PySem PySem.Spec PyProof.Rows Fw
section
variable{X:Cx}
end
end L2
namespace Fw
open PySem PySem.Spec PyProof.Rows L2
section
variable{X:Cx}{a:Expr}{da:D}{p pos:Pos}
end
section
variable{X:Cx}{pins:List (Addr×Obj)}{σ:L2.St}{H:Hp}{s:Shared}{k:Nat}
end
section
variable{X:Cx}{a b:Expr}{da db:D}{pos:Pos}{k:Nat}
end
end Fw
namespace L2
open PySem PySem.Spec PyProof.Rows
end L2
namespace Fw
open PySem PySem.Spec PyProof.Rows L2
end Fw
namespace L2
open PySem PySem.Spec PyProof.Rows
section
variable{prog:Program}{w:World}{A:Around}{E:Value->Shared->Prop}{s:Shared}
abbrev JV(h:Heap)(z TI TO a:Addr)(f:Bool):Prop:=h.get? z=some { cls:=.type "zip",dict:=none,data:=.fields #[rawInt a,.bool f,.bool false,.ref TI,.ref TO],slots:=#[] }
structure ZOA(z TI i1 i2 l1 l2:Addr):Prop where
 TIz:TI≠z
 i1z:i1≠z
 i2z:i2≠z
 i12:i1≠i2
 l1z:l1≠z
 l1i1:l1≠i1
 l2z:l2≠z
 l2i1:l2≠i1
end
section
variable{X:Cx}{pins:List (Addr×Obj)}{σ:L2.St}{H:Hp}{s:Shared}
structure ZO(k1 k2:Bool)(z TI TO i1 i2 l1 l2:Addr)(i:Nat)(H:Hp)(h:Heap):Prop where
 zz:IsZip h z TI TO .none∨∃a f ws,H a=some (.tup ws)/\JV h z TI TO a f
 ti:IsPair h TI (.ref i1) (.ref i2)
 to:∃a b,IsPair h TO a b
 one:KIt k1 h i1 l1 i
 two:KIt k2 h i2 l2 i
theorem ZO.keep{k1 k2:Bool}{z TI TO i1 i2 l1 l2:Addr}{i:Nat}{h h':Heap}(st:ZO k1 k2 z TI TO i1 i2 l1 l2 i H h)(k:∀b∈[z,TI,TO,i1,i2],∀o,h.get? b=some o->h'.get? b=some o):ZO k1 k2 z TI TO i1 i2 l1 l2 i H h':=by
 obtain⟨a,b,hto⟩:=st.to
 refine⟨?_,k TI (.tail _ (.head _)) _ st.ti,⟨a,b,k TO (.tail _ (.tail _ (.head _))) _ hto⟩,st.one.at λo e=>k i1 (.tail _ (.tail _ (.tail _ (.head _)))) o e,st.two.at λo e=>k i2 (.tail _ (.tail _ (.tail _ (.tail _ (.head _))))) o e⟩
 rcases st.zz with hz|⟨c,f,ws,hc,hz⟩
 ·exact .inl (k z (.head _) _ hz)
 ·exact .inr ⟨c,f,ws,hc,k z (.head _) _ hz⟩
theorem ZO.apart{k1 k2:Bool}{z TI TO i1 i2 l1 l2:Addr}{i:Nat}{xs ys:List V}(d1:TI≠TO)(d2:i1≠i2)(I:Inv X pins σ H s)(hf:∀b∈[z,TI,TO,i1,i2],kZ X pins H b)(st:ZO k1 k2 z TI TO i1 i2 l1 l2 i H s.heap)(h1:JI X.K k1 H l1 xs)(h2:JI X.K k2 H l2 ys) :
  ZipApart z TI TO i1 i2 l1 l2/\ZOA z TI i1 i2 l1 l2:=by
 obtain⟨a,b,hto⟩:=st.to
 obtain⟨o1,e1,q1⟩:=st.one.ob
 obtain⟨o2,e2,q2⟩:=st.two.ob
 obtain⟨oz,vz,ez,qz,sz⟩:∃(oz:Obj) (vz:Array Value),s.heap.get? z=some oz/\oz.data=.fields vz/\vz.size=5:=by
  rcases st.zz with hz|⟨c,f,ws,hc,hz⟩
  ·exact⟨_,_,hz,rfl,rfl⟩
  ·exact⟨_,_,hz,rfl,rfl⟩
 have neP:∀{c d:Addr}{o:Obj}{u v:Value}{vs:Array Value},IsPair s.heap c u v->s.heap.get? d=some o->o.data=.fields vs->c≠d:=λ{c d o u v vs} hp ho hd e=>by
  subst e
  have hp:s.heap.get? c=some { cls:=.type "tuple",data:=.seq #[u,v] }:=hp
  rw[hp] at ho;cases ho;cases hd
 have neZ:∀{d:Addr}{l:Addr}{o:Obj}{n:Nat},s.heap.get? d=some o->o.data=.fields #[.ref l,.int n 0]->d≠z:=λ{d l o n} ho hd e=>by
  subst e
  rw[ez] at ho;cases ho
  rw[qz] at hd
  have:vz=#[.ref l,.int n 0]:=by injection hd
  rw[this] at sz
  exact absurd sz (by simp)
 have w:∀c∈[z,TI,TO,i1,i2],l1≠c/\l2≠c:=λc hc=>⟨tw I h1 (hf c hc),tw I h2 (hf c hc)⟩
 have D:ZipApart z TI TO i1 i2 l1 l2:={ TIz:=neP st.ti ez qz,TOz:=neP hto ez qz,i1z:=neZ e1 q1,i2z:=neZ e2 q2,TITO:=d1,TIi1:=neP st.ti e1 q1,TIi2:=neP st.ti e2 q2,TOi1:=neP hto e1 q1,TOi2:=neP hto e2 q2,i12:=d2,l1z:=(w z (.head _)).1,l1TO:=(w TO (.tail _ (.tail _ (.head _)))).1,l1i1:=(w i1 (.tail _ (.tail _ (.tail _ (.head _))))).1,l1i2:=(w i2 (.tail _ (.tail _ (.tail _ (.tail _ (.head _)))))).1,l2z:=(w z (.head _)).2,l2TO:=(w TO (.tail _ (.tail _ (.head _)))).2,l2i1:=(w i1 (.tail _ (.tail _ (.tail _ (.head _))))).2,l2i2:=(w i2 (.tail _ (.tail _ (.tail _ (.tail _ (.head _)))))).2 }
 exact⟨D,⟨D.TIz,D.i1z,D.i2z,D.i12,D.l1z,D.l1i1,D.l2z,D.l2i1⟩⟩
end
end L2
namespace Fw
open PySem PySem.Spec PyProof.Rows L2
end Fw
namespace L2
open PySem PySem.Spec PyProof.Rows
end L2
namespace Fw
open PySem PySem.Spec PyProof.Rows L2
end Fw
namespace L2
open PySem PySem.Spec PyProof.Rows
section
variable{prog:Program}{w:World}{A:Around}{E:Value->Shared->Prop}{s:Shared}{d it:Addr}{es:Array DictEntry}{ep i:Nat}
end
section
variable{X:Cx}{pins:List (Addr×Obj)}{σ:List (Option V)}{H:Hp}{s:Shared}{d:Addr}{kvs:List (List Key×V)}
end
end L2
namespace Fw
open PySem
noncomputable def dD : SV -> Option Str
 | .val (.str s)=>some s
 | _=>none
@[simp] theorem aV(s:Str):dD (.val (.str s))=some s:=(rfl)
def fY:List T->Option (List Str)
 | []=>some []
 | .str s::ts=>(fY ts).map (s::·)
 | _::_=>none
theorem pN:∀{ts:List T}{ys:List Str},fY ts=some ys->ts=ys.map T.str
 | [],ys,h=>by cases h;rfl
 | .str s::ts,ys,h=>by
  obtain⟨zs,h1,rfl⟩:=Option.map_eq_some_iff.mp (show(fY ts).map (s::·)=some ys from h)
  rw[pN h1];rfl
 | .int _::_,_,h=>by cases h
 | .bl _::_,_,h=>by cases h
 | .non::_,_,h=>by cases h
 | .lst _::_,_,h=>by cases h
 | .tup _::_,_,h=>by cases h
 | .dct _::_,_,h=>by cases h
 | .exc _ _::_,_,h=>by cases h
 | .dtt _ _::_,_,h=>by cases h
theorem jM:∀ys:List Str,fY (ys.map T.str)=some ys
 | []=>rfl
 | y::ys=>by
  show(fY (ys.map T.str)).map (y::·)=_
  rw[jM ys];rfl
def cT(sep:Str):T->Option T
 | .lst ts=>(fY ts).bind λys=>if JoinOk sep ys=true then some (.str (Txt.join sep ys)) else none
 | _=>none
def ny(x:Str):T->Option T
 | .str y=>if (y.length==0)=false/\x.length≤szL/\(Txt.split x y).length≤szL then some (.lst ((Txt.split x y).map T.str)) else none
 | _=>none
def bw(g:Str->T->Option T)(a b:D):D:=λe μ=>(a e μ).bind λx μ1=>(R.lift (dD x) μ1).bind λs μ1=>(b e μ1).bind λy μ2=>R.lift (((rd μ2 y).bind (g s)).map SV.val) μ2
theorem fk(g:Str->T->Option T)(a b:D)(e:Slots)(μ:aa):bw g a b e μ=(a e μ).bind λx μ1=>(R.lift (dD x) μ1).bind λs μ1=>(b e μ1).bind λy μ2=>R.lift (((rd μ2 y).bind (g s)).map SV.val) μ2:=(rfl)
def dM:T->T->Option T
 | .str i,.str j=>some (.bl (!(Builtin.Str.occurrences j i 0 j.length 1).isEmpty))
 | _,_=>none
def pO:T->Option T
 | .str x=>if x.length≤640 then (PySem.intText? x).map T.int else none
 | _=>none
noncomputable def dS (x : Str) (lo hi : Option Int) : Str :=
 if (Builtin.Str.strSliceIndices lo hi 1 x.length).length==x.length then x else ⟨(List.filterMap (λi=>x.cps[i]?) (Builtin.Str.strSliceIndices lo hi 1 x.length)).toArray⟩
def iJ(t:T)(lo hi:Option Int):Option T:=match t with
 | .str x=>if (dS x lo hi).length≤szL then some (.str (dS x lo hi)) else none
 | _=>none
def cA(da:D)(lo hi:Option D):D:=λe μ=>(da e μ).bind λx μ1=>(mS lo e μ1).bind λl μ2=>(mS hi e μ2).bind λh μ3=>R.lift (ap1 (λt=>iJ t l h) (rd μ3 x)) μ3
theorem bT(da:D)(lo hi:Option D)(e:Slots)(μ:aa):cA da lo hi e μ=(da e μ).bind λx μ1=>(mS lo e μ1).bind λl μ2=>(mS hi e μ2).bind λh μ3=>R.lift (ap1 (λt=>iJ t l h) (rd μ3 x)) μ3:=(rfl)
def iK(x:Str):List T:=x.cps.toList.map λc=>.str ⟨#[c]⟩
def y7(d:D):DI:=λe μ=>(d e μ).bind λx μ1=>(R.lift (dD x) μ1).bind λs μ1=>.ok ⟨iK s,λ_=>True⟩ μ1
theorem GC(d:D)(e:Slots)(μ:aa):y7 d e μ=(d e μ).bind λx μ1=>(R.lift (dD x) μ1).bind λs μ1=>.ok ⟨iK s,λ_=>True⟩ μ1:=(rfl)
def nz(x:Str):T->Option T
 | .str y=>match Builtin.Str.occurrences x y 0 x.length 1 with
  | i::_=>some (.int (i:Int))
  | []=>none
 | _=>none
def fJ(a b c:D):D:=λe μ=>(a e μ).bind λx μ1=>(R.lift (dD x) μ1).bind λs μ1=>(b e μ1).bind λy μ2=>(c e μ2).bind λz μ3=>R.lift ((dD y).bind λt=>((rd μ3 z).bind dN).map λi=>SV.val (.bl (Txt.startswith3 s t i))) μ3
theorem cG(a b c:D)(e:Slots)(μ:aa):fJ a b c e μ=(a e μ).bind λx μ1=>(R.lift (dD x) μ1).bind λs μ1=>(b e μ1).bind λy μ2=>(c e μ2).bind λz μ3=>R.lift ((dD y).bind λt=>((rd μ3 z).bind dN).map λi=>SV.val (.bl (Txt.startswith3 s t i))) μ3:=(rfl)
def oU:T->Option T
 | .int i=>if i.natAbs.log2<1920 then some (.str (toString i)) else none
 | .str x=>if x.length≤szL then some (.str x) else none
 | _=>none
def iL:List D->Str->Slots->aa->R Str
 | [],acc,_,μ=>.ok acc μ
 | d::ds,acc,e,μ=>(d e μ).bind λx μ1=>(R.lift (dD x) μ1).bind λy μ1=>if (acc++y).length≤szL then iL ds (acc++y) e μ1 else .bad
def dFs(ds:List D):D:=λe μ=>(iL ds Str.empty e μ).bind λz μ1=>.ok (.val (.str z)) μ1
theorem CM(ds:List D)(e:Slots)(μ:aa):dFs ds e μ=(iL ds Str.empty e μ).bind λz μ1=>.ok (.val (.str z)) μ1:=(rfl)
theorem nA(acc:Str)(e:Slots)(μ:aa):iL [] acc e μ=.ok acc μ:=(rfl)
theorem iM(d:D)(ds:List D)(acc:Str)(e:Slots)(μ:aa):iL (d::ds) acc e μ=(d e μ).bind λx μ1=>(R.lift (dD x) μ1).bind λy μ1=>if (acc++y).length≤szL then iL ds (acc++y) e μ1 else .bad:=(rfl)
def ko:T->T->Option T
 | .str i,.str j=>some (.bl (!(!(Builtin.Str.occurrences j i 0 j.length 1).isEmpty)))
 | _,_=>none
end Fw
namespace Fw
open PySem PySem.Spec PyProof.Rows L2
section
variable{X:Cx}{a b c:Expr}{da db dc:D}{pos p p2:Pos}{k:Nat}
end
end Fw
namespace HT
open PySem PyProof.Rows
section
open PySem.SeqAt
open PySem.AutoSeq1 (wpAny_loadPart')
open PySem.MeetsSeq PySem.MeetsSeq2 PySem.MeetsSeq3
end
section
variable{prog:Program}{w:World}{A:Around}{E:Value->Shared->Prop}{s:Shared}
end
end HT
namespace HT
open PySem PySem.W PySem.Calls PyProof.Rows
section
variable{n:Nat}{p:Array Nat}
end
section
variable{prog:Program}{w:World}{A:Around}{E:Value->Shared->Prop}{s:Shared}
end
end HT
namespace Fw
open PySem
end Fw
namespace HT
open PySem PySem.W PySem.Calls PyProof.Rows
section
variable{prog:Program}{w:World}{A:Around}{E:Value->Shared->Prop}{s:Shared}
end
end HT
namespace L2
open PySem PySem.Spec PyProof.Rows Fw
section
variable{X:Cx}
def LsI(K:PySem.W.Frag)(H:Hp):List V->List (List Int)->Prop
 | [],[]=>True
 | v::vs,ns::nss=>(∃a,v=.ref a/\SqL K H a (ns.map V.int))/\LsI K H vs nss
 | _,_=>False
theorem LsI.len{K:PySem.W.Frag}{H:Hp}:∀{vs:List V}{nss:List (List Int)},LsI K H vs nss->vs.length=nss.length
 | [],[],_=>rfl
 | _::_,_::_,h=>by rw[List.length_cons,List.length_cons,LsI.len h.2]
theorem LsI.at{K:PySem.W.Frag}{H:Hp}:∀{vs:List V}{nss:List (List Int)} (i:Nat),LsI K H vs nss->i<vs.length->∃a,vs[i]?=some (.ref a)/\SqL K H a ((nss.getD i []).map V.int)
 | _::_,_::_,0,h,_=>by obtain⟨a,rfl,q⟩:=h.1;exact⟨a,rfl,q⟩
 | _::_,_::_,i+1,h,hi=>by
  obtain⟨a,h1,h2⟩:=LsI.at i h.2 (by simpa using hi)
  exact⟨a,h1,h2⟩
end
end L2
namespace Fw
open PySem PySem.Spec PyProof.Rows L2
section
variable{K:PySem.W.Frag}{F H:Hp}
end
section
variable{X:Cx}{a:Expr}{da:D}{p pos:Pos}{k:Nat}
end
end Fw
namespace Fw
open PySem
end Fw
namespace Fw
open PySem PySem.Spec PyProof.Rows L2
section
variable{K:PySem.W.Frag}{F H:Hp}{α:List Addr}{μ:aa}
end
section
variable{X:Cx}{a b:Expr}{da db:D}{pos:Pos}{k:Nat}
end
section
variable{X:Cx}{body:List Stmt}{it:Expr}{dv:D}{d:DS}{pos np:Pos}
end
end Fw
namespace HT
open PySem PySem.Calls PyProof.Rows
section
variable{prog:Program}{w:World}{A:Around}{E:Value->Shared->Prop}{s:Shared}
end
end HT
namespace L2
open PySem PySem.Spec PyProof.Rows Fw
section
variable{X:Cx}
end
end L2
namespace Fw
open PySem PySem.Spec PyProof.Rows L2
section
variable{X:Cx}{a:Expr}{da:D}{p pos:Pos}
end
end Fw
namespace Fw
open PySem
end Fw
namespace L2
open PySem PySem.Spec PyProof.Rows
end L2
namespace Fw
open PySem PySem.Spec PyProof.Rows L2
section
variable{X:Cx}{a b:Expr}{da db:D}{pos:Pos}{k:Nat}
end
section
variable{X:Cx}{a b:Expr}{da db:D}{pos:Pos}{k:Nat}
end
end Fw
set_option maxHeartbeats 4000000
namespace Fw
open PySem PySem.Spec PyProof.Rows L2
theorem fsc{N P:List Str}{sc:Scope}(h1:sc.kind=.function:=by rfl)(h2:sc.isCoroutine=false:=by rfl)(h3:sc.isGenerator=false:=by rfl)(h4:N.Nodup:=by decide +kernel)(h5:N.take P.length=P:=by rfl)
  (h6:∀x∈P,sc.names.lookup x=some .local∨sc.names.lookup x=some .cell:=by decide +kernel) (h7:∀y∈sc.names,y.2≠.free:=by decide +kernel):aY N P sc:=⟨h1,h2,h3,h4,h5,h6,h7⟩
section
variable{X:Cx}{k r:Nat}{f:Addr}{fd:FuncData}{ps:List Str}{fn:FN}{x:Str}{st:Stmt}{e:Expr}{es:List Expr}{ds:List D}{p pos:Pos}
theorem cc(G:gb X.prog X.w X.K X.mg X.base CX0 k f fd ps (spD X.K fn ps.length))(hr:dP r X.A)(g:Gf X.K X.mg x st ps f fd)(ha:CA X (e::es) ds)(le:k≤r:=by first|decide|exact Nat.le_refl _|exact Nat.le_trans (by decide) (Nat.le_add_right _ _))
  (hl:ds.length=ps.length:=by rfl) (hg:Gl X x:=by rfl) (hdb:(x==("__debug__":Str))=false:=by decide) (he:starEach (e::es) X.env=(false,eval e X.env)::starEach es X.env:=by rfl) (hpl:(backTo pos (starEach es X.env)).any (·.1)=false:=by rfl) :
  CE X (.Call (.Name x p) (e::es) [] pos) (ax (cal fn) ds):=F8 G (hr.mono le) g.m g.F.kp g.b ha hl hg hdb he hpl
end
structure Fa(K:PySem.W.Frag)(x:Str)(st:Stmt)(f:Addr)(fd:FuncData):Prop where
 a:PySem.W.nsIn K mainGlobals x=some (some (.ref f))
 F:Fun K x x st f fd
section
variable{K:PySem.W.Frag}{mg:Str->Option Value}{x:Str}{st:Stmt}{f:Addr}
theorem cW{oc:Value}{od an:Option Addr}{osl:Array (Option Value)}{kV doc pm cdv ct:Value}(a:PySem.W.nsIn K mainGlobals x=some (some (.ref f)))(l:K.lookup f=some ⟨oc,od,.func (PySem.W.fnOf x x (fD st) (dZ st) (aw st) .none kV doc pm an cdv ct),osl⟩)
  (c:PySem.W.codeIn K cdv x=true) (k:PySem.W.keepIn K (.ref f)=true):Fa K x st f (PySem.W.fnOf x x (fD st) (dZ st) (aw st) .none kV doc pm an cdv ct):=⟨a,Jc l c k⟩
variable{fd:FuncData}{ps:List Str}{h:Heap}
def Bn(x:Str)(st:Stmt)(ps:List Str)(us:List Value):Prop:=∀(kV doc pm:Value) (an:Option Addr) (cdv ct:Value),bindArgs (PySem.W.fnOf x x (fD st) (dZ st) (aw st) .none kV doc pm an cdv ct) ⟨us,[]⟩=pure (ps.zip us)
theorem xj(X:K.In h)(G:h.Ns mainGlobals mg)(A:Fa K x st f fd)(b:∀us:List Value,us.length=ps.length->Bn x st ps us):Gf K mg x st ps f fd:=⟨A.F,A.F.binds λkV doc pm an cdv ct us hl=>b us hl kV doc pm an cdv ct,PySem.W.mg_of X G A.a⟩
theorem gf1(X:K.In h)(G:h.Ns mainGlobals mg)(A:Fa K x st f fd)(b:∀a,Bn x st ps [a]:=by intro a kV doc pm an cdv ct;rfl)(hl:ps.length=1:=by rfl):Gf K mg x st ps f fd:=xj X G A λus h=>by
 rw[hl] at h
 match us,h with
 | [a],_=>exact b a
theorem gf2(X:K.In h)(G:h.Ns mainGlobals mg)(A:Fa K x st f fd)(b:∀a c,Bn x st ps [a,c]:=by intro a c kV doc pm an cdv ct;rfl)(hl:ps.length=2:=by rfl):Gf K mg x st ps f fd:=xj X G A λus h=>by
 rw[hl] at h
 match us,h with
 | [a,c],_=>exact b a c
theorem gf3(X:K.In h)(G:h.Ns mainGlobals mg)(A:Fa K x st f fd)(b:∀a c d,Bn x st ps [a,c,d]:=by intro a c d kV doc pm an cdv ct;rfl)(hl:ps.length=3:=by rfl):Gf K mg x st ps f fd:=xj X G A λus h=>by
 rw[hl] at h
 match us,h with
 | [a,c,d],_=>exact b a c d
theorem gf4(X:K.In h)(G:h.Ns mainGlobals mg)(A:Fa K x st f fd)(b:∀a c d e,Bn x st ps [a,c,d,e]:=by intro a c d e kV doc pm an cdv ct;rfl)(hl:ps.length=4:=by rfl):Gf K mg x st ps f fd:=xj X G A λus h=>by
 rw[hl] at h
 match us,h with
 | [a,c,d,e],_=>exact b a c d e
end
end Fw
namespace L2
open PySem PySem.Spec PyProof.Rows Fw
section
variable{X:Cx}
theorem pP:∀{ys:List Str}{us:List Value},Vals (ys.map V.str) us->∃l:List (Str×Tok),PySem.strValues l=us/\l.map (λx=>x.1)=ys
 | [],_,.nil=>⟨[],rfl,rfl⟩
 | y::ys,_,.cons ⟨t,e⟩ h=>by
  obtain⟨l,h1,h2⟩:=pP h
  exact⟨(y,t)::l,by rw[← h1,e];rfl,by rw[List.map_cons,h2]⟩
theorem GD:MtR X "str.join" (λx vs H Q=>∃(sep:Str) (p:Addr) (ys:List Str),x=.str sep/\vs=[.ref p]/\SqL X.K H p (ys.map V.str)/\JoinOk sep ys=true/\Q (.str (Txt.join sep ys)) H):=by
 intro pins s σ H x vs v us Q I rx rv h
 obtain⟨sep,p,ys,rfl,rfl,hq,ho,q⟩:=h
 obtain⟨t,rfl⟩:=rx
 obtain⟨u,rfl,ru⟩:=rv.one
 cases ru
 obtain⟨its,rv,pl,hz⟩:=I.list hq
 obtain⟨l,rfl,h2⟩:=pP rv
 refine SC.join pl.isList h2 ho λt' k=>?_
 exact⟨.str (Txt.join sep ys),H,I.tok k,⟨t',rfl⟩,q⟩
theorem pQ:∀(ys:List Str) (k:Nat),Vals (ys.map V.str) (PySem.strsFrom k ys)
 | [],_=>.nil
 | y::ys,k=>by
  rw[List.map_cons,PySem.strsFrom]
  exact .cons ⟨_,rfl⟩ (pQ ys (k+1))
theorem CN:MtR X "str.split" (λx vs H Q=>∃(a b:Str),x=.str a/\vs=[.str b]/\(b.length==0)=false/\a.length≤sizeLine/\(Txt.split a b).length≤sizeLine/\∀q,H q=none->Q (.ref q) (upd H q (.lst ((Txt.split a b).map V.str)))):=by
 intro pins s σ H x vs v us Q I rx rv h
 obtain⟨a,b,rfl,rfl,hb,ha,hz,q⟩:=h
 obtain⟨t,rfl⟩:=rx
 obtain⟨u,rfl,ru⟩:=rv.one
 obtain⟨t2,rfl⟩:=ru
 have hfr:=I.hok.fresh (Nat.le_refl s.heap.objs.size)
 have q:=q _ hfr
 by_cases h1:(decide (a.length<b.length) || decide (PySem.Builtin.Str.strKind a<PySem.Builtin.Str.strKind b))=true
 ·have e:Txt.split a b=[a]:=by unfold Txt.split;rw[if_pos h1]
  rw[e] at q hz
  refine call_meets F.slot_str_split (typeIs_str s a t) F.entry_str_split (F.args_str_split_2 _ _) (PySem.meets_str_split_cannot_occur a b t t2 h1) ?_
  exact⟨.ref s.heap.objs.size,_,I.yh (ys:=[V.str a]) (its:=[.str a t]) (.cons ⟨t,rfl⟩ .nil) (by simpa using hz),rfl,q⟩
 ·have h1:(decide (a.length<b.length) || decide (PySem.Builtin.Str.strKind a<PySem.Builtin.Str.strKind b))=false:=by simpa using h1
  by_cases h2:(PySem.Builtin.Str.occurrences a b 0 a.length (a.length+1)).isEmpty=true
  ·have e:Txt.split a b=[a]:=by unfold Txt.split;rw[if_neg (by rw[h1];exact Bool.false_ne_true),if_pos h2]
   rw[e] at q hz
   refine call_meets F.slot_str_split (typeIs_str s a t) F.entry_str_split (F.args_str_split_2 _ _) (PySem.meets_str_split_not_found a b t t2 h1 hb h2) ?_
   exact⟨.ref s.heap.objs.size,_,I.yh (ys:=[V.str a]) (its:=[.str a t]) (.cons ⟨t,rfl⟩ .nil) (by simpa using hz),rfl,q⟩
  ·have e:Txt.split a b=PySem.Builtin.Str.partsBetween a (PySem.Builtin.Str.occurrences a b 0 a.length (a.length+1)) b.length:=by unfold Txt.split;rw[if_neg (by rw[h1];exact Bool.false_ne_true),if_neg h2]
   have h2:(PySem.Builtin.Str.occurrences a b 0 a.length (a.length+1)).isEmpty=false:=by simpa using h2
   rw[e] at q hz
   refine call_meets F.slot_str_split (typeIs_str s a t) F.entry_str_split (F.args_str_split_2 _ _) (PySem.meets_str_split_sep a b t t2 h1 hb h2 ha hz) ?_
   exact⟨.ref s.heap.objs.size,_,I.yh (pQ _ _) (by rw[List.length_map];exact hz),rfl,q⟩
end
end L2
namespace Fw
open PySem PySem.Spec PyProof.Rows L2
theorem aD.HK{K:PySem.W.Frag}{F:Hp}:∀{bs:List Str}{vs:List V},aD K F (bs.map T.str) vs->vs=bs.map V.str
 | [],vs,h=>by rw[List.map_nil,aD] at h;exact h
 | b::bs,vs,h=>by
  rw[List.map_cons,aD] at h
  obtain⟨v,vs',rfl,q,r⟩:=h
  rw[r.HK,q.eH];rfl
section
variable{X:Cx}
def i6(K:PySem.W.Frag)(r:V->List V->Hp->VK->Prop)(g:Str->T->Option T):Prop:=∀x F H u t w Q,aN F H->Now K F H u t->g x t=some w ->
 (∀v' H' F',a_ F H F' H'->Rep K F' w v'->Q v' H')->r (.str x) [u] H Q
theorem kq{o e1:Expr}{do_ de:D}{apos aP:Pos}{name:Str}{id:String}{r:V->List V->Hp->VK->Prop}{g:Str->T->Option T}(slot:Slot "str" name id)(hty:typeOf (.builtin id)=pure (.type "method_descriptor"))(hm:MtR X id r)(hg:i6 X.K r g)(ho:CE X o do_)(he:CE X e1 de)(cf:attributeBase o name X.env (eval o X.env)=eval o X.env:=by rfl)
  (fb:((backTo aP (starEach [e1] X.env)).all (λx=>!x.1) && (backToKw aP (keywordEach [] X.env)).all (λx=>x.1.isSome) && decide (([e1]:List Expr).length+([]:List Keyword).length+(if ([]:List Keyword).isEmpty then 0 else 1)<30))=true:=by rfl)
  (cD:(apos.endLine==aP.line)=true:=by rfl) (hs1:starEach [e1] X.env=(false,eval e1 X.env)::starEach [] X.env:=by rfl) (hpl:(backTo aP (starEach [] X.env)).any (·.1)=false:=by rfl) :
  CE X (.Call (.Attribute o name apos) [e1] [] aP) (bw g do_ de) :=
 PE.imp (pg PySem.F.plainAttrs_str slot hty hm ho (ag he au hs1) cf fb cD hs1 hpl) λσ H Q ao=>by
  obtain⟨F,α,e,μ,S,h⟩:=ao
  refine⟨F,α,e,μ,S,(R.wp_bind h).mono (λx μ1 h v H1 F1 α1 x1 S1 o1=>?_) λ_ _ h=>h⟩
  obtain⟨sep,hl,h3⟩:=R.aT (R.wp_bind h)
  cases x with
  | val t =>
   cases t with
   | str z =>
    cases hl
    have o1:v=.str sep:=Rep.eH (show Rep X.K F1 (.str sep) v from o1)
    subst o1
    refine⟨rfl,pD ⟨F1,α1,e,μ1,S1,(R.wp_bind h3).mono (λy μ2 h v2 H2 F2 α2 x2 S2 o2=>?_) λ_ _ h=>h.mono x1⟩⟩
    obtain⟨w,hw,h⟩:=R.aT h
    obtain⟨t,ht,rfl⟩:=Option.map_eq_some_iff.mp hw
    obtain⟨u,hu,hj⟩:=Option.bind_eq_some_iff.mp ht
    exact hg sep F2 H2 v2 u t Q S2.st.ext (a5 S2.st o2 hu) hj λv' H' F' gr rp=>h v' H' F' α2 ((x1.trans x2).trans (gr.ex S2.st.ext)) (S2.grow gr) rp
   | _=>cases hl
  | cel j=>cases hl
  | box xs=>cases hl
theorem CP{K:PySem.W.Frag}:i6 K (λx vs H Q=>∃(sep:Str) (p:Addr) (ys:List Str),x=.str sep/\vs=[.ref p]/\SqL K H p (ys.map V.str)/\JoinOk sep ys=true/\Q (.str (Txt.join sep ys)) H) cT:=by
 intro x F H u t w Q s hv hw q
 cases t with
 | lst ts =>
  obtain⟨ys,h1,h2⟩:=Option.bind_eq_some_iff.mp (show((fY ts).bind λys=>if JoinOk x ys=true then some (T.str (Txt.join x ys)) else none)=some w from hw)
  by_cases hok:JoinOk x ys=true
  ·rw[if_pos hok] at h2
   cases h2
   obtain⟨a,vs,rfl,hq,hl⟩:=hv.l5
   rw[pN h1] at hl
   rw[hl.HK] at hq
   exact⟨x,a,ys,rfl,rfl,hq,hok,q _ H F a_.refl (by rw[Rep])⟩
  ·rw[if_neg hok] at h2;cases h2
 | _=>cases hw
theorem aD.xk{K:PySem.W.Frag}{F:Hp}:∀bs:List Str,aD K F (bs.map T.str) (bs.map V.str)
 | []=>by rw[List.map_nil,List.map_nil,aD]
 | b::bs=>by
  rw[List.map_cons,List.map_cons,aD]
  exact⟨_,_,rfl,by rw[Rep],aD.xk bs⟩
theorem y8{K:PySem.W.Frag}:i6 K (λx vs H Q=>∃(a b:Str),x=.str a/\vs=[.str b]/\(b.length==0)=false/\a.length≤sizeLine/\(Txt.split a b).length≤sizeLine/\∀q,H q=none->Q (.ref q) (upd H q (.lst ((Txt.split a b).map V.str)))) ny:=by
 intro x F H u t w Q s hv hw q
 cases t with
 | str y =>
  by_cases hok:(y.length==0)=false/\x.length≤szL/\(Txt.split x y).length≤szL
  ·have hw:(if (y.length==0)=false/\x.length≤szL/\(Txt.split x y).length≤szL then some (T.lst ((Txt.split x y).map T.str)) else none)=some w:=hw
   rw[if_pos hok] at hw
   cases hw
   have e:u=.str y:=hv
   subst e
   exact⟨x,y,rfl,rfl,hok.1,hok.2.1,hok.2.2,λp hp=>xa s hp (aD.xk _) q⟩
  ·have hw:(if (y.length==0)=false/\x.length≤szL/\(Txt.split x y).length≤szL then some (T.lst ((Txt.split x y).map T.str)) else none)=some w:=hw
   rw[if_neg hok] at hw;cases hw
 | _=>cases hw
end
section
variable{X:Cx}{a b:Expr}{da db:D}{pos:Pos}
theorem xl{K:PySem.W.Frag}:cF K (λx y H Q=>∃i j,x=.str i/\y=.str j/\Q (.bl (!(Builtin.Str.occurrences j i 0 j.length 1).isEmpty)) H) dM:=by
 intro F H v u t t' w Q s hv hu hw q
 cases t with
 | str i =>
  cases t' with
  | str j =>
   cases hw
   have e1:v=.str i:=hv
   have e2:u=.str j:=hu
   exact⟨i,j,e1,e2,q _ H F a_.refl (by rw[Rep])⟩
  | _=>cases hw
 | _=>cases hw
theorem vp(ha:CE X a da)(hb:CE X b db)(hm:behindInMarks .In b=false:=by rfl):CE X (.Compare a [.In] [b] pos) (ah dM da db):=mZ o9 xl hm ha hb
theorem y9:dg X (.type "int") (λxs H Q=>∃x i,xs=[.str x]/\x.length≤640/\PySem.intText? x=some i/\Q (.int i) H):=by
 intro pins s σ H xs us Q I r h
 obtain⟨x,i,rfl,hl,hi,q⟩:=h
 obtain⟨u,rfl,ru⟩:=vals1 r
 obtain⟨t,rfl⟩:=ru
 exact PySem.W.KTb.int_tab (L:=[x]) (zs:=[i]) (n:=1) (k:=0) (by omega) (λj hj=>by
  have:j=0:=by omega
  subst this
  exact⟨hi,hl⟩) λt' k'=>⟨.int i,H,I.tok k',⟨t',rfl⟩,q⟩
theorem CQ{K:PySem.W.Frag}:mY K (λxs H Q=>∃x i,xs=[.str x]/\x.length≤640/\PySem.intText? x=some i/\Q (.int i) H) pO:=by
 intro F H v t w Q s hv hw q
 cases t with
 | str x =>
  have hw:(if x.length≤640 then (PySem.intText? x).map T.int else none)=some w:=hw
  by_cases hz:x.length≤640
  ·rw[if_pos hz] at hw
   obtain⟨i,hi,rfl⟩:=Option.map_eq_some_iff.mp hw
   have e:v=.str x:=hv
   exact⟨x,i,by rw[e],hz,hi,q _ H F a_.refl (by rw[Rep])⟩
  ·rw[if_neg hz] at hw;cases hw
 | _=>cases hw
end
end Fw
namespace L2
open PySem PySem.Spec PyProof.Rows Fw
section
variable{X:Cx}
theorem part_of{v:Value}{o:Option Int}(p:IsPart v o):∃l:Option (Int×Tok),PySem.partValue l=v/\l.map (λx=>x.1)=o:=by
 cases p with
 | none=>exact⟨none,rfl,rfl⟩
 | int i t=>exact⟨some (i,t),rfl,rfl⟩
theorem JW:SlR X (λx lo hi H Q=>∃z,x=.str z/\(dS z lo hi).length≤sizeLine/\Q (.str (dS z lo hi)) H):=by
 intro pins s σ H x v vl vu lo hi sl Q I rx hs pl pu h
 obtain⟨z,rfl,hz,q⟩:=h
 obtain⟨t,rfl⟩:=rx
 obtain⟨l,rfl,rfl⟩:=part_of pl
 obtain⟨u,rfl,rfl⟩:=part_of pu
 refine⟨"str",_,PyProof.Rows.slot_str_getitem.lookup,typeIs_str s z t,?_⟩
 refine PySem.wpAny_getItem_str_slice (l:=l) (u:=u) (st:=none) hs rfl ?_
 unfold PySem.sliceMade
 unfold dS at q hz
 by_cases hc:((Builtin.Str.strSliceIndices (l.map λx=>x.1) (u.map λx=>x.1) 1 z.length).length==z.length)=true
 ·rw[if_pos hc] at q
  rw[if_pos (by simpa [PySem.slicePicked] using hc)]
  exact⟨.str z,H,I,⟨t,rfl⟩,q⟩
 ·rw[if_neg hc] at q hz
  rw[if_neg (by simpa [PySem.slicePicked] using hc)]
  exact⟨hz,.str _,H,I.tok _,⟨_,rfl⟩,q⟩
end
end L2
namespace Fw
open PySem PySem.Spec PyProof.Rows L2
section
variable{X:Cx}{a:Expr}{da:D}{pos p2:Pos}
theorem bR{lo hi:Option Expr}{dl dh:Option D}(ha:CE X a da)(hl:CO X lo dl)(hh:CO X hi dh):CE X (.Subscript a (.Slice lo hi none p2) pos) (cA da dl dh) :=
 PE.imp (Ba JW ha hl hh) λσ H Q ao=>by
  obtain⟨F,α,e,μ,S,h⟩:=ao
  refine⟨F,α,e,μ,S,(R.wp_bind h).mono (λx μ1 h v H1 F1 α1 x1 S1 o1=>⟨F1,α1,e,μ1,S1,?_⟩) λ_ _ h=>h⟩
  refine(R.wp_bind h).mono (λl μ2 h H2 F2 α2 x2 S2=>⟨F2,α2,e,μ2,S2,?_⟩) λ_ _ h=>h.mono x1
  refine(R.wp_bind h).mono (λr μ3 h H3 F3 α3 x3 S3=>?_) λ_ _ h=>h.mono (x1.trans x2)
  obtain⟨w,h9,post⟩:=R.aT h
  obtain⟨t,w',ht,h,rfl⟩:=k8 h9
  have nt:=a5 S3.st (o1.mono (x2.trans x3).same (x2.trans x3).pre) ht
  cases t with
  | str z =>
   have h:(if (dS z l r).length≤szL then some (T.str (dS z l r)) else none)=some w':=h
   by_cases hz:(dS z l r).length≤szL
   rotate_left
   ·rw[if_neg hz] at h;cases h
   rw[if_pos hz] at h
   cases h
   have e:v=.str z:=nt
   exact⟨z,e,hz,post _ H3 F3 α3 (x1.trans (x2.trans x3)) S3 (show Rep X.K F3 (.str _) _ by rw[Rep])⟩
  | _=>cases h
end
end Fw
namespace L2
open PySem PySem.Spec PyProof.Rows Fw
def Its(x:Str):It:=⟨λi _=>i<x.cps.size,λi H v H'=>H'=H/\∃c,x.cps[i]?=some c/\v=.str ⟨#[c]⟩,λi _=>i=x.cps.size⟩
theorem CU{P:Program}{w:World}{K:PySem.W.Frag}{tg:Expr}(x:Str)(t:Tok)(it:Addr)(ty:String)(ht:ty="str_ascii_iterator"∨ty="str_iterator"):Turn P w K tg (Its x) [it] it (λi h=>i≤x.cps.size/\h.IsStrIter it ty x t i) where
 mem:=by simp
 obj:=λi h st b hb=>by
  have e:b=it:=by simpa using hb
  subst e
  obtain⟨_,o,e,c,d⟩:=st
  exact⟨o,e,λv z=>by rw[d] at z;cases z⟩
 keep:=λi h h' st k=>by
  obtain⟨hi,o,e,c,d⟩:=st
  exact⟨hi,o,k it (by simp) o e,c,d⟩
 item:=by
  intro X hP hw hK hc i pins s σ H E I hf st hg
  subst hP hw hK
  obtain⟨f0,f1,f2,f3,f4,f5⟩:=hf it (by simp)
  have W:Walks X.prog X.w X.A it [it] [it] x.cps.size (SignAt x) (λi h=>h.IsStrIter it ty x t i):=by
   rcases ht with rfl|rfl
   ·exact Walks.strAscii (I.ok.hd hc) it x t
   ·exact Walks.strWide (I.ok.hd hc) it x t
  refine W.item i s _ _ hg st.2 λv h' tk hv st' kk=>?_
  obtain⟨c,u,hcu,rfl⟩:=hv
  have I1:Inv X pins σ H { s with heap:=h',toks:=tk }:=I.turned (λb o hb e=>kk b o (by simpa using hb) e) f0 f1 f3 f4 f5
  obtain⟨o,e,cc,d⟩:=id st'
  refine⟨_,rfl,se (s:={ s with heap:=h',toks:=tk }) (n:=ty) e cc d (by rcases ht with rfl|rfl<;>decide) ⟨.str ⟨#[c]⟩,H,I1,⟨u,rfl⟩,⟨rfl,c,hcu,rfl⟩,⟨hg,st'⟩,λb hb=>(hf b hb).1⟩⟩
 done:=by
  intro X hP hw hK hc i pins s σ H E I hf st hg
  subst hP hw hK
  obtain⟨f0,f1,f2,f3,f4,f5⟩:=hf it (by simp)
  have W:Walks X.prog X.w X.A it [it] [it] x.cps.size (SignAt x) (λi h=>h.IsStrIter it ty x t i):=by
   rcases ht with rfl|rfl
   ·exact Walks.strAscii (I.ok.hd hc) it x t
   ·exact Walks.strWide (I.ok.hd hc) it x t
  have hg:i=x.cps.size:=hg
  subst hg
  exact W.done s _ _ st.2 λh' tk kk=>⟨rfl,I.turned (λb o hb e=>kk b o (by simpa using hb) e) f0 f1 f3 f4 f5⟩
 self:=λA i s Q E st h=>by
  rcases ht with rfl|rfl
  ·exact wpAny_pyIter_striter_ascii st.2 h
  ·exact wpAny_pyIter_striter_wide st.2 h
def Nn(tl:TE):TI:=λσ H R=>tl σ H λx H1=>∃z,x=.str z/\R (Its z) H1
theorem JX{X:Cx}{tg l:Expr}{tl:TE}(hl:PE X l tl):PI X tg l (Nn tl):=by
 intro pins s σ H R I h
 refine thn (hl pins s σ H _ I h) λv s1 ao=>?_
 obtain⟨x,H1,I1,r1,q1⟩:=ao
 obtain⟨z,rfl,q⟩:=q1
 obtain⟨t,rfl⟩:=r1
 have fin:∀ty,(ty="str_ascii_iterator"∨ty="str_iterator")->PIE X pins σ tg R (.ref s1.heap.objs.size) { s1 with heap:=s1.heap.push { cls:=.type ty,data:=.fields #[.str z t,.int 0 0] } }:=λty hty=>by
  have I_:(s1.heap.push { cls:=.type ty,data:=.fields #[.str z t,.int 0 0] }).IsStrIter s1.heap.objs.size ty z t 0:=⟨_,Heap.get?_push_size _ rfl,rfl,rfl⟩
  have I2:Inv X pins σ H1 { s1 with heap:=s1.heap.push { cls:=.type ty,data:=.fields #[.str z t,.int 0 0] },toks:=s1.toks }:=I1.kept (t':=s1.toks) λb o e=>Heap.get?_push_of_some _ e
  refine⟨_,[s1.heap.objs.size],_,_,H1,rfl,I2,CU z t s1.heap.objs.size ty hty,⟨Nat.zero_le _,I_⟩,λb hb=>?_,q⟩
  have e:b=s1.heap.objs.size:=by simpa using hb
  subst e
  exact I1.xY (Nat.le_refl _) (I1.hok.fresh (Nat.le_refl _))
 cases ha:z.cps.all λx=>decide (x<128) with
 | true=>exact wpAny_pyIter_ascii ha (fin _ (.inl rfl))
 | false=>exact wpAny_pyIter_wide ha (fin _ (.inr rfl))
end L2
namespace Fw
open PySem PySem.Spec PyProof.Rows L2
theorem JY{X:Cx}{tg a:Expr}{da:D}(ha:CE X a da):CI X tg a (y7 da) :=
 PI.imp (JX ha) λσ H R0 ao=>by
  obtain⟨F,α,e,μ,S,h⟩:=ao
  refine⟨F,α,e,μ,S,(R.wp_bind h).mono (λx μ1 h v H1 F1 α1 x1 S1 o1=>?_) λ_ _ h=>h⟩
  obtain⟨z,hl,post⟩:=R.aT (R.wp_bind h)
  cases x with
  | val t =>
   cases t with
   | str y =>
    cases hl
    have o1:v=.str z:=Rep.eH (show Rep X.K F1 (.str z) v from o1)
    refine⟨z,o1,post _ H1 F1 α1 x1 S1 λF2 α2 μ3 H2 s2 p2 S2 same=>?_⟩
    refine⟨λi t hi=>?_,?_⟩
    ·have hi:(z.cps.toList.map λc=>T.str ⟨#[c]⟩)[i]?=some t:=hi
     rw[List.getElem?_map] at hi
     obtain⟨c,hc,rfl⟩:=Option.map_eq_some_iff.mp hi
     have hc2:z.cps[i]?=some c:=by rw[← Array.getElem?_toList];exact hc
     refine⟨(Array.getElem?_eq_some_iff.mp hc2).1,?_⟩
     rintro q H3 ⟨rfl,c',h1,rfl⟩
     rw[hc2] at h1
     cases h1
     exact⟨F2,a_.refl,by rw[Rep]⟩
    ·show(z.cps.toList.map λc=>T.str ⟨#[c]⟩).length=z.cps.size
     rw[List.length_map,Array.length_toList]
   | _=>cases hl
  | cel j=>cases hl
  | box xs=>cases hl
end Fw
namespace L2
open PySem PySem.Spec PyProof.Rows Fw
section
variable{X:Cx}
theorem CV:MtR X "str.index" (λx vs H Q=>∃(a b:Str) (i:Nat) (r:List Nat),x=.str a/\vs=[.str b]/\Builtin.Str.occurrences a b 0 a.length 1=i::r/\Q (.int (i:Int)) H):=by
 intro pins s σ H x vs v us Q I rx rv h
 obtain⟨a,b,i,r,rfl,rfl,ho,q⟩:=h
 obtain⟨t,rfl⟩:=rx
 obtain⟨u,rfl,ru⟩:=rv.one
 obtain⟨t2,rfl⟩:=ru
 exact SC.index ho ⟨.int (i:Int),H,I.tok _,⟨_,rfl⟩,q⟩
theorem y_:MtR X "str.startswith" (λx vs H Q=>∃(a b:Str) (i:Int),x=.str a/\vs=[.str b,.int i]/\Q (.bl (Txt.startswith3 a b i)) H):=by
 intro pins s σ H x vs v us Q I rx rv h
 obtain⟨a,b,i,rfl,rfl,q⟩:=h
 obtain⟨t,rfl⟩:=rx
 cases rv with
 | cons r1 r2 =>
  obtain⟨u,rfl,r3⟩:=Vals.one r2
  obtain⟨t1,rfl⟩:=r1
  obtain⟨t2,rfl⟩:=r3
  exact SC.startswith3 ⟨.bl _,H,I,rfl,q⟩
end
end L2
namespace Fw
open PySem PySem.Spec PyProof.Rows L2
section
variable{X:Cx}
theorem zc{K:PySem.W.Frag}:i6 K (λx vs H Q=>∃(a b:Str) (i:Nat) (r:List Nat),x=.str a/\vs=[.str b]/\Builtin.Str.occurrences a b 0 a.length 1=i::r/\Q (.int (i:Int)) H) nz:=by
 intro x F H u t w Q s hv hw q
 cases t with
 | str y =>
  have hw:(match Builtin.Str.occurrences x y 0 x.length 1 with|i::_=>some (T.int (i:Int))|[]=>none)=some w:=hw
  cases ho:Builtin.Str.occurrences x y 0 x.length 1 with
  | nil=>rw[ho] at hw;cases hw
  | cons i r =>
   rw[ho] at hw
   cases hw
   have e:u=.str y:=hv
   subst e
   exact⟨x,y,i,r,rfl,rfl,ho,q _ H F a_.refl (by rw[Rep])⟩
 | _=>cases hw
theorem lA{o e1 e2:Expr}{do_ de dc:D}{apos aP:Pos}(ho:CE X o do_)(he:CE X e1 de)(hc:CE X e2 dc)(cf:attributeBase o "startswith" X.env (eval o X.env)=eval o X.env:=by rfl)
  (fb:((backTo aP (starEach [e1,e2] X.env)).all (λx=>!x.1) && (backToKw aP (keywordEach [] X.env)).all (λx=>x.1.isSome) && decide (([e1,e2]:List Expr).length+([]:List Keyword).length+(if ([]:List Keyword).isEmpty then 0 else 1)<30))=true:=by rfl)
  (cD:(apos.endLine==aP.line)=true:=by rfl) (hs1:starEach [e1,e2] X.env=(false,eval e1 X.env)::starEach [e2] X.env:=by rfl) (hs2:starEach [e2] X.env=(false,eval e2 X.env)::starEach [] X.env:=by rfl) (hpl:(backTo aP (starEach [e2] X.env)).any (·.1)=false:=by rfl) :
  CE X (.Call (.Attribute o "startswith" apos) [e1,e2] [] aP) (fJ do_ de dc) :=
 PE.imp (pg PySem.F.plainAttrs_str PySem.F.slot_str_startswith PySem.F.type_str_startswith y_ ho (ag he (ag hc au hs2) hs1) cf fb cD hs1 hpl) λσ H Q ao=>by
  obtain⟨F,α,e,μ,S,h⟩:=ao
  refine⟨F,α,e,μ,S,(R.wp_bind h).mono (λx μ1 h v H1 F1 α1 x1 S1 o1=>?_) λ_ _ h=>h⟩
  obtain⟨sep,hl,h3⟩:=R.aT (R.wp_bind h)
  cases x with
  | val t =>
   cases t with
   | str z =>
    cases hl
    have o1:v=.str sep:=Rep.eH (show Rep X.K F1 (.str sep) v from o1)
    subst o1
    refine⟨rfl,BS ⟨F1,α1,e,μ1,S1,(R.wp_bind h3).mono (λy μ2 h=>?_) λ_ _ h=>h.mono x1⟩⟩
    refine(R.wp_bind h).mono (λz μ3 h v2 v3 H3 F3 α3 x3 S3 o2 o3=>?_) λ_ _ h=>h.mono x1
    obtain⟨w,hw,post⟩:=R.aT h
    obtain⟨b,hb,hw⟩:=Option.bind_eq_some_iff.mp hw
    obtain⟨i,hi,rfl⟩:=Option.map_eq_some_iff.mp hw
    obtain⟨u,hu,hi⟩:=Option.bind_eq_some_iff.mp hi
    cases y with
    | val t =>
     cases t with
     | str y =>
      cases hb
      have e2:v2=.str b:=Rep.eH (show Rep X.K F3 (.str b) v2 from o2)
      cases u with
      | int j =>
       cases hi
       have e3:v3=.int i:=a5 S3.st o3 hu
       subst e2 e3
       exact⟨sep,b,i,rfl,rfl,post _ H3 F3 α3 (x1.trans x3) S3 (show Rep X.K F3 (.bl _) _ by rw[Rep])⟩
      | _=>cases hi
     | _=>cases hb
    | cel j=>cases hb
    | box xs=>cases hb
   | _=>cases hl
  | cel j=>cases hl
  | box xs=>cases hl
end
section
variable{X:Cx}
inductive CJ(X:Cx):List Expr->List D->Prop
 | nil:CJ X [] []
 | cons {e:Expr}{es:List Expr}{d:D}{ds:List D} (h:CE X e d) (t:CJ X es ds):CJ X (e::es) (d::ds)
theorem tH{pins:List (Addr×Obj)}{e:Slots}{σ:L2.St}{Q:VK}:∀{es:List Expr}{ds:List D} (C:CJ X es ds) (acc:Str) {s:Shared}{H F:Hp}{α:List Addr}{μ:aa} (I:Inv X pins σ H s) (S:Sim X.K F α e μ σ H) (ha:acc.length≤sizeLine)
  (h:(iL ds acc e μ).wp (λz μ'=>∀H' F' α',Ex F α H F' α' H'->Sim X.K F' α' e μ' σ H'->Q (.str z) H') (bX X F α H e)),
  Joins (model X.prog X.w) X.A X.xe (evalEach es X.env) acc (λout s1=>out.length≤sizeLine/\EP X pins σ Q (.str out s1.toks) { s1 with toks:=s1.toks+1 }) s
 | _,_,.nil,acc,s,H,F,α,μ,I,S,ha,h=>⟨ha,.str acc,H,I.tok _,⟨_,rfl⟩,h H F α Ex.refl S⟩
 | _,_,.cons (e:=e1) (es:=es) (d:=d) (ds:=ds) hc t,acc,s,H,F,α,μ,I,S,ha,h=>by
  show wpAny (model X.prog X.w) X.A (eval e1 X.env) _ X.xe s
  rw[iM] at h
  refine thn (hc pins s σ H (λx H1=>∃y F1 α1 μ1,x=.str y/\Ex F α H F1 α1 H1/\Sim X.K F1 α1 e μ1 σ H1/\(acc++y).length≤szL /\
   (iL ds (acc++y) e μ1).wp (λz μ'=>∀H' F' α',Ex F α H F' α' H'->Sim X.K F' α' e μ' σ H'->Q (.str z) H') (bX X F α H e)) I ⟨F,α,e,μ,S,?_⟩) ?_
  ·refine(R.wp_bind h).mono (λx μ1 h v H1 F1 α1 x1 S1 o1=>?_) λ_ _ h=>h
   obtain⟨y,hy,h3⟩:=R.aT (R.wp_bind h)
   cases x with
   | val t =>
    cases t with
    | str z =>
     cases hy
     have o1:v=.str y:=Rep.eH (show Rep X.K F1 (.str y) v from o1)
     by_cases hz:(acc++y).length≤szL
     ·rw[if_pos hz] at h3
      exact⟨y,F1,α1,μ1,o1,x1,S1,hz,h3⟩
     ·rw[if_neg hz] at h3;exact h3.elim
    | _=>cases hy
   | cel j=>cases hy
   | box xs=>cases hy
  ·rintro v s1 ⟨x,H1,I1,r1,y,F1,α1,μ1,rfl,x1,S1,hz,h⟩
   obtain⟨tk,rfl⟩:=r1
   refine⟨y,tk,rfl,hz,tH t (acc++y) I1 S1 hz (h.mono (λz μ' h H' F' α' x2 S2=>h H' F' α' (x1.trans x2) S2) λ_ _ h=>h.mono x1)⟩
theorem HL{e1 e2:Expr}{es:List Expr}{ds:List D}{pos:Pos}(C:CJ X (e1::e2::es) ds):CE X (.JoinedStr (e1::e2::es) pos) (dFs ds):=λpins s σ H Q I ⟨F,α,e,μ,S,h⟩ =>
 wpAny_JoinedStr (tH C Str.empty I S (Nat.zero_le _) ((R.wp_bind h).mono (λz μ' h H' F' α' x1 S1=>h (.str z) H' F' α' x1 S1 (show Rep X.K F' (.str z) _ by rw[Rep])) λ_ _ h=>h))
theorem vq{a:Expr}{da:D}{pos:Pos}(ha:CE X a da):CE X (.FormattedValue a (-1) none pos) (dUn oU da):=λpins s σ H Q I ao=>by
 obtain⟨F,α,e,μ,S,h⟩:=ao
 refine wpAny_FormattedValue_plain (thn (ha pins s σ H (λx H1=>(∃i,x=.int i/\i.natAbs.log2<1920/\Q (.str (toString i)) H1)∨(∃y,x=.str y/\y.length≤sizeLine/\Q (.str y) H1)) I ⟨F,α,e,μ,S,?_⟩) ?_)
 ·refine(R.wp_bind h).mono (λx μ1 h v H1 F1 α1 x1 S1 o1=>?_) λ_ _ h=>h
  obtain⟨w,h9,post⟩:=R.aT h
  obtain⟨t,w',ht,hf,rfl⟩:=k8 h9
  have n:=a5 S1.st o1 ht
  cases t with
  | int i =>
   have hf:(if i.natAbs.log2<1920 then some (T.str (toString i)) else none)=some w':=hf
   by_cases c:i.natAbs.log2<1920
   ·rw[if_pos c] at hf
    cases hf
    exact .inl ⟨i,n.int,c,post _ H1 F1 α1 x1 S1 (show Rep X.K F1 (.str _) _ by rw[Rep])⟩
   ·rw[if_neg c] at hf;cases hf
  | str y =>
   have hf:(if y.length≤szL then some (T.str y) else none)=some w':=hf
   by_cases c:y.length≤szL
   ·rw[if_pos c] at hf
    cases hf
    exact .inr ⟨y,n.str,c,post _ H1 F1 α1 x1 S1 (show Rep X.K F1 (.str _) _ by rw[Rep])⟩
   ·rw[if_neg c] at hf;cases hf
  | _=>cases hf
 ·rintro v s1 ⟨x,H1,I1,r1,⟨i,rfl,c,q⟩|⟨y,rfl,c,q⟩⟩
  ·obtain⟨tk,rfl⟩:=r1
   exact formatField_int_small c ⟨.str (toString i),H1,(I1.tok _).tok _,⟨_,rfl⟩,q⟩
  ·obtain⟨tk,rfl⟩:=r1
   exact formatField_str (λt' tk'=>⟨.str y,H1,I1.tok _,⟨_,rfl⟩,q⟩) c
def CY(K:PySem.W.Frag)(mg:Str->Option Value)(x:Str)(ys:List Str):Prop :=
 ∃(a:Addr) (o:Obj) (its:Array Value) (n:Nat),mg x=some (.ref a)/\K.lookup a=some o/\o.cls=.type "tuple"/\o.data=.seq its n/\its.size≤sizeLine/\Vals (ys.map V.str) its.toList
def Itc(ys:List Str):It:=⟨λi _=>i<ys.length,λi H x H'=>H'=H/\∃y,ys[i]?=some y/\x=.str y,λi _=>ys.length≤i⟩
theorem zd{P:Program}{w:World}{K:PySem.W.Frag}{tg:Expr}{a it:Addr}{o:Obj}{its:Array Value}{n:Nat}{ys:List Str}(hk:K.lookup a=some o)(hcl:o.cls=.type "tuple")(hs:o.data=.seq its n)(rv:Vals (ys.map V.str) its.toList) :
  Turn P w K tg (Itc ys) [it] it (λi h=>h.IsTupleIter it a i) where
 mem:=by simp
 obj:=λi h st b hb=>by
  have e:b=it:=by simpa using hb
  subst e
  obtain⟨o,e,c,d⟩:=st
  exact⟨o,e,λv z=>by rw[d] at z;cases z⟩
 keep:=λi h h' st k=>st.at λo e=>k it (by simp) o e
 item:=by
  intro X hP hw hK hc i pins s σ H E I hf st hg
  subst hP hw hK
  have hg:i<ys.length:=hg
  have p:s.heap.IsTuple a its:=⟨o,I.kIn a o hk,hcl,n,hs⟩
  have hx:(ys.map V.str)[i]?=some (V.str ys[i]):=by simp[hg]
  obtain⟨u,hu,ru⟩:=rv.get hx
  obtain⟨f0,f1,f2,f3,f4,f5⟩:=hf it (by simp)
  refine wpAny_pyNext_tuple_item st p (x:=u) (by simpa using hu) λh' st' sb=>?_
  have I1:Inv X pins σ H { s with heap:=h' }:=I.turned (t':=s.toks) (λb o hb e=>(sb.2 b hb).trans e) f0 f1 f3 f4 f5
  obtain⟨o',e,c,d⟩:=id st'
  exact⟨u,rfl,se (s:={ s with heap:=h' }) e c d (by decide) ⟨V.str ys[i],H,I1,ru,⟨rfl,ys[i],by simp[hg],rfl⟩,st',λb hb=>(hf b hb).1⟩⟩
 done:=by
  intro X hP hw hK hc i pins s σ H E I hf st hg
  subst hP hw hK
  have hg:ys.length≤i:=hg
  have p:s.heap.IsTuple a its:=⟨o,I.kIn a o hk,hcl,n,hs⟩
  obtain⟨f0,f1,f2,f3,f4,f5⟩:=hf it (by simp)
  have hl:=rv.length
  simp only[List.length_map,Array.length_toList] at hl
  exact wpAny_pyNext_tuple_end (I.ok.hd hc) st p (Array.getElem?_eq_none (by omega)) λh' eb=>⟨rfl,I.turned (t':=s.toks) (λb o hb e=>eb b o hb e) f0 f1 f3 f4 f5⟩
 self:=λ_ _ _ _ _ st h=>wpAny_pyIter_tupleiter st h
theorem GF{tg:Expr}{x:Str}{ys:List Str}{pos:Pos}(h:CY X.K X.mg x ys)(hg:Gl X x:=by rfl)(hd:(x==("__debug__":Str))=false:=by decide):PI X tg (.Name x pos) (λ_ H R=>R (Itc ys) H):=by
 obtain⟨a,o,its,n,hm,hk,hc,hs,hz,r⟩:=h
 intro pins s σ H R I h
 refine thn (me (v:=.ref a) hg hm rfl hd pins s σ H (λv H1=>v=.ref a/\R (Itc ys) H1) I ⟨rfl,h⟩) λv s1 ao=>?_
 obtain⟨x,H1,I1,r1,q1⟩:=ao
 obtain⟨e,q⟩:=q1
 subst e
 cases r1
 have p:s1.heap.IsTuple a its:=⟨o,I1.kIn a o hk,hc,n,hs⟩
 refine wpAny_pyIter_tuple p ?_
 refine⟨s1.heap.objs.size,[s1.heap.objs.size],_,_,H1,rfl,I1.kept (t':=s1.toks) λb o e=>Heap.get?_push_of_some _ e,zd hk hc hs r,⟨_,Heap.get?_push_size _ rfl,rfl,rfl⟩,λb hb=>?_,q⟩
 have e:b=s1.heap.objs.size:=by simpa using hb
 subst e
 exact I1.xY (Nat.le_refl _) (I1.hok.fresh (Nat.le_refl _))
theorem GG{tg:Expr}{x:Str}{ys:List Str}{pos:Pos}(h:CY X.K X.mg x ys)(hg:Gl X x:=by rfl)(hd:(x==("__debug__":Str))=false:=by decide):CI X tg (.Name x pos) (fB (dC (.tup (ys.map T.str)))) :=
 PI.imp (GF h hg hd) λσ H R0 ao=>by
  obtain⟨F,α,e,μ,S,h⟩:=ao
  refine h (Itc ys) H F α Ex.refl S λF2 α2 μ2 H2 s2 p2 S2 same=>⟨λi t hi=>?_,?_⟩
  ·have hi:(ys.map T.str)[i]?=some t:=hi
   rw[List.getElem?_map] at hi
   obtain⟨y,hy,rfl⟩:=Option.map_eq_some_iff.mp hi
   refine⟨(List.getElem?_eq_some_iff.mp hy).1,λx H3 ⟨e1,z,e2,e3⟩=>?_⟩
   subst e1;subst e3
   rw[hy] at e2;cases e2
   exact⟨F2,a_.refl,Rep.u6 _⟩
  ·show ys.length≤(ys.map T.str).length
   rw[List.length_map];exact Nat.le_refl _
theorem CZ{K:PySem.W.Frag}:cF K (λx y H Q=>∃i j,x=.str i/\y=.str j/\Q (.bl (!(!(Builtin.Str.occurrences j i 0 j.length 1).isEmpty))) H) ko:=by
 intro F H v u t t2 w Q s hv hu hw q
 cases t with
 | str i =>
  cases t2 with
  | str j =>
   cases hw
   exact⟨i,j,hv.str,hu.str,q _ H F a_.refl (by rw[Rep])⟩
  | _=>cases hw
 | _=>cases t2<;>cases hw
variable{a b:Expr}{da db:D}{pos:Pos}
theorem vt(ha:CE X a da)(hb:CE X b db)(hm:behindInMarks .In b=false:=by rfl):CT X (.Compare a [.In] [b] pos) (ah dM da db):=iA o9 xl hm ha hb
theorem xm(ha:CE X a da)(hb:CE X b db)(hm:behindInMarks .NotIn b=false:=by rfl):CT X (.Compare a [.NotIn] [b] pos) (ah ko da db):=iA qf CZ hm ha hb
theorem kr{apos aP:Pos}(ho:CE X a da)(he:CE X b db)(cf:attributeBase a "join" X.env (eval a X.env)=eval a X.env:=by rfl)
  (fb:((backTo aP (starEach [b] X.env)).all (λx=>!x.1) && (backToKw aP (keywordEach [] X.env)).all (λx=>x.1.isSome) && decide (([b]:List Expr).length+([]:List Keyword).length+(if ([]:List Keyword).isEmpty then 0 else 1)<30))=true:=by rfl)
  (cD:(apos.endLine==aP.line)=true:=by rfl) (hs1:starEach [b] X.env=(false,eval b X.env)::starEach [] X.env:=by rfl) (hpl:(backTo aP (starEach [] X.env)).any (·.1)=false:=by rfl) :
  CE X (.Call (.Attribute a "join" apos) [b] [] aP) (bw cT da db):=kq PySem.F.slot_str_join PySem.F.type_str_join GD CP ho he cf fb cD hs1 hpl
theorem C0{apos aP:Pos}(ho:CE X a da)(he:CE X b db)(cf:attributeBase a "index" X.env (eval a X.env)=eval a X.env:=by rfl)
  (fb:((backTo aP (starEach [b] X.env)).all (λx=>!x.1) && (backToKw aP (keywordEach [] X.env)).all (λx=>x.1.isSome) && decide (([b]:List Expr).length+([]:List Keyword).length+(if ([]:List Keyword).isEmpty then 0 else 1)<30))=true:=by rfl)
  (cD:(apos.endLine==aP.line)=true:=by rfl) (hs1:starEach [b] X.env=(false,eval b X.env)::starEach [] X.env:=by rfl) (hpl:(backTo aP (starEach [] X.env)).any (·.1)=false:=by rfl) :
  CE X (.Call (.Attribute a "index" apos) [b] [] aP) (bw nz da db):=kq PySem.F.slot_str_index PySem.F.type_str_index CV zc ho he cf fb cD hs1 hpl
end
end Fw
namespace L2
open PySem PySem.Spec PyProof.Rows Fw
theorem l6(l:Addr)(items:Array Value)(n:Nat)(b:Addr)(o2:Obj)(nC:Array Value)(n2:Nat)(h1:o2.cls=.type "list")(h2:o2.dict=none)(h3:o2.data=.seq nC n2)(hc0:¬(!items.isEmpty && Builtin.List.listTooLong (items.size+nC.size))=true)(hc1:items.size≤sizeLine)(hs2:items.size+nC.size≤sizeLine+1) :
  Meets (Builtin.«list.extend» ⟨[.ref l,.ref b],[]⟩) (λ_ R s=>s.heap.get? l=some { cls:=.type "list",dict:=none,data:=.seq items n,slots:=#[] }/\s.heap.get? b=some o2/\R (.ok (.ret Value.none)) { s with heap:=s.heap.update l (Obj.mapSeq λx=>x++nC),toks:=s.toks }) :=
 .of_wp λprog w A R s h=>by
  obtain⟨c2,d2,dt2,sl2⟩:=o2
  cases h1;cases h2;cases h3
  obtain⟨hp,g,d,tk,os⟩:=s;obtain⟨hl,hb,h⟩:=h;have f1:=AutoSeq1.idx_int;have f2:=AutoSeq1.sub_tuple_tuple;have f3:=AutoSeq1.sub_list_list;have f4:=AutoSeq1.sub_tuple_list;have f5:=AutoSeq1.sub_list_tuple;
  have hz':(items++nC).size≤sizeLine+1:=by rw[Array.size_append];exact hs2
  wp_walk using (wpAny_updateSeq hl rfl (hz:=hc1) (_hz':=hz')),AutoSeq1.wpAny_loadPart' hl,AutoSeq1.wpAny_loadPart' hb;exact⟨_,rfl,h⟩
section
variable{X:Cx}
def L3(K:PySem.W.Frag):V->List V->Hp->VK->Prop:=λx vs H Q=>∃l b xs zs,x=.ref l/\vs=[.ref b]/\H l=some (.lst xs)/\SqL K H b zs/\xs.length+zs.length≤sizeLine/\Q .non (upd H l (.lst (xs++zs)))
theorem vv:MtM X "list.extend" (L3 X.K):=by
 intro pins s σ H x vs v us Q I rx rv h
 obtain⟨l,b,xs,zs,rfl,rfl,hH,hB,hz,q⟩:=h
 cases rx
 obtain⟨u,rfl,ru⟩:=rv.one
 cases ru
 obtain⟨z,its,n,r,hl,e⟩:=I.IY hH
 obtain⟨mK,r2,⟨o2,n2,e2,k1,k2,k3⟩,z2⟩:=I.list hB
 have hl2:=r2.length
 have hsz:its.toArray.size+mK.toArray.size≤sizeLine:=by rw[List.size_toArray,List.size_toArray];lia
 have Bb:¬ (!its.toArray.isEmpty && Builtin.List.listTooLong (its.toArray.size+mK.toArray.size))=true:=by
  rw[sj hsz,Bool.and_false]
  exact Bool.false_ne_true
 refine call_meets F.slot_list_extend ⟨_,e,rfl⟩ F.entry_list_extend (F.args_list_extend_2 _ _)
  (l6 l its.toArray n b o2 mK.toArray n2 k1 k2 k3 Bb (by rw[List.size_toArray];lia) (by lia)) ⟨e,e2,?_⟩
 refine⟨.non,_,I.Li (its':=its++mK) hH e (by simp) (r.append r2) ?_,rfl,q⟩
 rw[List.length_append]
 lia
end
end L2
namespace Fw
open PySem PySem.Spec PyProof.Rows L2
section
variable{X:Cx}{pos:Pos}
theorem vw{o e1:Expr}{do_ de:D}{apos aP:Pos}(ho:CE X o do_)(he:CE X e1 de)(cf:attributeBase o "extend" X.env (eval o X.env)=eval o X.env:=by rfl)
  (fb:((backTo aP (starEach [e1] X.env)).all (λx=>!x.1) && (backToKw aP (keywordEach [] X.env)).all (λx=>x.1.isSome) && decide (([e1]:List Expr).length+([]:List Keyword).length+(if ([]:List Keyword).isEmpty then 0 else 1)<30))=true:=by rfl)
  (cD:(apos.endLine==aP.line)=true:=by rfl) (hs1:starEach [e1] X.env=(false,eval e1 X.env)::starEach [] X.env:=by rfl) (hpl:(backTo aP (starEach [] X.env)).any (·.1)=false:=by rfl)
  (hs:swapsWith (.Call (.Attribute o "extend" apos) [e1] [] aP) none pos.line X.env=pure false:=by rfl) :
  CS X (.Expr (.Call (.Attribute o "extend" apos) [e1] [] aP) pos) (mw do_ de) :=
 PS.imp (wG (pg PySem.F.plainAttrs_list PySem.F.slot_list_extend PySem.F.type_list_extend vv ho (ag he au hs1) cf fb cD hs1 hpl) hs) λD σ H ao=>by
  obtain⟨F,α,e,μ,S,h⟩:=ao
  refine⟨F,α,e,μ,S,(aU.toS h).mono (λx μ1 h v H1 F1 α1 x1 S1 o1=>?_) λ_ _ h=>h⟩
  obtain⟨_,hl,h⟩:=h.lift
  cases x with
  | cel j =>
   obtain⟨ad,ha,rfl⟩:=o1
   have hc:∃bb ts,μ1[j]?=some (bb,.lst ts):=by
    unfold oP at hl
    simp only at hl
    split at hl
    ·exact⟨_,_,by assumption⟩
    ·cases hl
   obtain⟨bb,ts,hj⟩:=hc
   have n1:=a5 S1.st (x:=.cel j) (t:=.lst ts) ⟨ad,ha,rfl⟩ (by rw[qD,hj];rfl)
   obtain⟨a',vs,e1,hq,_⟩:=n1.l5
   cases e1
   refine⟨.inl ⟨rfl,vs,hq⟩,pD ⟨F1,α1,e,μ1,S1,(aU.toS h).mono (λy μ2 h v2 H2 F2 α2 x2 S2 o2=>?_) λ_ _ h=>h.mono x1⟩⟩
   obtain⟨μ3,hx3,L4⟩:=aU.lift h
   obtain⟨t,ht,hx3⟩:=Option.bind_eq_some_iff.mp hx3
   cases y with
   | val t' =>
    cases ht
    cases t with
    | lst us =>
     have o2:Rep X.K F2 (.lst us) v2:=o2
     rw[Rep] at o2
     obtain⟨p,vs2,rfl,hv2,hr2⟩:=o2
     have hx3:fj (.cel j) (.lst us) μ2=some μ3:=hx3
     have hcc:∃ts2,μ2[j]?=some (true,.lst ts2)/\ts2.length+us.length≤szL/\μ3=μ2.set j (true,.lst (ts2++us)):=by
      unfold fj at hx3
      try simp only at hx3
      split at hx3
      ·rename_i ts2 hj2
       by_cases hz:ts2.length+us.length≤szL
       ·rw[if_pos hz] at hx3
        cases hx3
        exact⟨ts2,hj2,hz,rfl⟩
       ·rw[if_neg hz] at hx3;cases hx3
      ·cases hx3
     obtain⟨ts2,hj2,hz,rfl⟩:=hcc
     have ha2:α2[j]?=some ad:=i3 x2.pre ha
     obtain⟨_,ws,hw,rw'⟩:=(S2.st.cell j true _ ad hj2 ha2).1 rfl
     have l1:=rw'.length
     have l2:=hr2.length
     refine⟨ad,p,ws,vs2,rfl,rfl,hw,S2.st.ext.seq hv2,by rw[ng] at hz;lia,?_⟩
     exact L4 σ _ F2 α2 ((x1.trans x2).trans (Ex.put ha2)) (S2.of (aN.refl _) (List.prefix_refl _) (u9 S2.st hj2 ha2 ⟨_,aH,rw'.append hr2⟩))
    | _=>cases hx3
   | cel j=>cases ht
   | box xs=>cases ht
  | val t=>cases hl
  | box xs=>cases hl
end
end Fw
namespace L2
open PySem PySem.Spec PyProof.Rows
section
variable{prog:Program}{w:World}{A:Around}{E:Value->Shared->Prop}{s:Shared}
end
abbrev eH1(h:Heap)(l:Addr):Heap:=(h.push (HH false l)).push { cls:=.type "enumerate",data:=.fields #[.none,.bool false,.ref h.objs.size,rawInt 1,.none,.none] }
open AutoSeq1 (wpAny_loadPart') in
set_option maxHeartbeats 4000000 in
theorem JZ(l:Addr)(its:Array Value)(n:Nat)(dc:Option Addr)(sl:Array (Option Value))(t:Tok) :
  Meets (Builtin.«enumerate.__new__» ⟨[.type "enumerate",.ref l],[("start",.int 1 t)]⟩) (λ_ R s=>s.heap.get? l=some { cls:=.type "tuple",dict:=dc,data:=.seq its n,slots:=sl } /\
   R (.ok (.ret (.ref (s.heap.push (HH false l)).objs.size))) { s with heap:=eH1 s.heap l }) :=
 .of_wp λprog w A R s h=>by
  obtain⟨hp,g,d,tk,os⟩:=s
  obtain⟨hl,h⟩:=h
  have q1:=sub_enumerate
  have q2:=AutoSeq1.idx_int
  have hT:Heap.IsTuple (Shared.heap ⟨hp,g,d,tk,os⟩) l its:=⟨_,hl,rfl,n,rfl⟩
  wp_walk using wpAny_loadPart' hl
  refine wpAny_stack_any λst=>wpAny_pure ?_
  split
  ·rename_i c _ _ _ _ _
   cases (c==Value.type "enumerate")
   ·(wp_walk using wpAny_loadPart' hl,wpAny_pyIter_tuple hT);exact⟨_,rfl,h⟩
   ·(wp_walk using wpAny_loadPart' hl,wpAny_pyIter_tuple hT);exact⟨_,rfl,h⟩
  ·(wp_walk using wpAny_loadPart' hl,wpAny_pyIter_tuple hT);exact⟨_,rfl,h⟩
section
variable{prog:Program}{w:World}{A:Around}{E:Value->Shared->Prop}{s:Shared}
end
section
variable{M:Model}{A:Around}{E:Value->Shared->Prop}{s:Shared}{env:Env}
end
end L2
namespace Fw
open PySem PySem.Spec PyProof.Rows L2
end Fw
namespace Fw
open PySem
def pR(x:Str):T->Option T
 | .str y=>some (.int (Txt.find x y))
 | _=>none
def nD(x:Str):T->Option T
 | .str y=>some (.int (Txt.rfind x y))
 | _=>none
def qN(a b c:D):D:=λe μ=>(a e μ).bind λx μ1=>(R.lift (dD x) μ1).bind λs μ1=>(b e μ1).bind λy μ2=>(c e μ2).bind λz μ3=>R.lift ((dD y).bind λt=>((rd μ3 z).bind dN).map λi=>SV.val (.int (Txt.find3 s t i))) μ3
theorem ze(a b c:D)(e:Slots)(μ:aa):qN a b c e μ=(a e μ).bind λx μ1=>(R.lift (dD x) μ1).bind λs μ1=>(b e μ1).bind λy μ2=>(c e μ2).bind λz μ3=>R.lift ((dD y).bind λt=>((rd μ3 z).bind dN).map λi=>SV.val (.int (Txt.find3 s t i))) μ3:=(rfl)
def rf4(x y:Str)(i j:Int):Int:=match Builtin.Str.lastOccurrence x y (fromIndex x.length i) (min (fromIndex x.length j) x.length) with
 | some k=>(k:Int)
 | none=>-1
def i7(a b c d:D):D:=λe μ=>(a e μ).bind λx μ1=>(R.lift (dD x) μ1).bind λs μ1=>(b e μ1).bind λy μ2=>(c e μ2).bind λz μ3=>(d e μ3).bind λw μ4=>R.lift ((dD y).bind λt=>((rd μ4 z).bind dN).bind λi=>((rd μ4 w).bind dN).map λj=>SV.val (.int (rf4 s t i j))) μ4
theorem nE(a b c d:D)(e:Slots)(μ:aa):i7 a b c d e μ=(a e μ).bind λx μ1=>(R.lift (dD x) μ1).bind λs μ1=>(b e μ1).bind λy μ2=>(c e μ2).bind λz μ3=>(d e μ3).bind λw μ4=>R.lift ((dD y).bind λt=>((rd μ4 z).bind dN).bind λi=>((rd μ4 w).bind dN).map λj=>SV.val (.int (rf4 s t i j))) μ4:=(rfl)
def ku:T->T->Option T
 | .str x,.int n=>if 2≤n/\n<2 ^ 32/\x.length≠0/\x.length*n.toNat≤szL then some (.str ⟨(List.replicate n.toNat x.cps).foldl (·++·) #[]⟩) else none
 | _,_=>none
def eO:T->T->Option T
 | .lst xs,.lst ys=>if xs.length+ys.length≤szL then some (.lst (xs++ys)) else none
 | _,_=>none
end Fw
namespace PySem
open Builtin Builtin.Str
theorem kx(x y:Str)(i j:Int)(t u v v2:Tok):Gives («str.rfind» ⟨[.str x t,.str y u,.int i v,.int j v2],[]⟩) (.int (Fw.rf4 x y i j)):=by
 show Gives (match lastOccurrence x y (fromIndex x.length i) (min (fromIndex x.length j) x.length) with|some k=>retInt k|none=>(do rule "str.rfind.not-found";retInt (-1))) _
 unfold Fw.rf4
 cases lastOccurrence x y (fromIndex x.length i) (min (fromIndex x.length j) x.length) with
 | none=>exact .rule (.of_eq rfl)
 | some k=>exact .of_eq rfl
end PySem
namespace L2
open PySem PySem.Spec PyProof.Rows Fw
section
variable{X:Cx}
theorem GH:MtR X "str.find" (λx vs H Q=>∃(a b:Str),x=.str a/\vs=[.str b]/\Q (.int (Txt.find a b)) H):=by
 intro pins s σ H x vs v us Q I rx rv h
 obtain⟨a,b,rfl,rfl,q⟩:=h
 obtain⟨t,rfl⟩:=rx
 obtain⟨u,rfl,ru⟩:=rv.one
 obtain⟨t2,rfl⟩:=ru
 exact SC.find ⟨.int _,H,I.tok _,⟨_,rfl⟩,q⟩
theorem C6:MtR X "str.rfind" (λx vs H Q=>∃(a b:Str),x=.str a/\vs=[.str b]/\Q (.int (Txt.rfind a b)) H):=by
 intro pins s σ H x vs v us Q I rx rv h
 obtain⟨a,b,rfl,rfl,q⟩:=h
 obtain⟨t,rfl⟩:=rx
 obtain⟨u,rfl,ru⟩:=rv.one
 obtain⟨t2,rfl⟩:=ru
 exact SC.rfind ⟨.int _,H,I.tok _,⟨_,rfl⟩,q⟩
theorem C7:MtR X "str.find" (λx vs H Q=>∃(a b:Str) (i:Int),x=.str a/\vs=[.str b,.int i]/\Q (.int (Txt.find3 a b i)) H):=by
 intro pins s σ H x vs v us Q I rx rv h
 obtain⟨a,b,i,rfl,rfl,q⟩:=h
 obtain⟨t,rfl⟩:=rx
 cases rv with
 | cons r1 r2 =>
  obtain⟨u,rfl,r3⟩:=Vals.one r2
  obtain⟨t1,rfl⟩:=r1
  obtain⟨t2,rfl⟩:=r3
  exact SC.find3 ⟨.int _,H,I.tok _,⟨_,rfl⟩,q⟩
theorem zf:MtR X "str.rfind" (λx vs H Q=>∃(a b:Str) (i j:Int),x=.str a/\vs=[.str b,.int i,.int j]/\Q (.int (rf4 a b i j)) H):=by
 intro pins s σ H x vs v us Q I rx rv h
 obtain⟨a,b,i,j,rfl,rfl,q⟩:=h
 obtain⟨t,rfl⟩:=rx
 cases rv with
 | cons r1 r2 =>
  cases r2 with
  | cons r2 r3 =>
   obtain⟨u,rfl,r4⟩:=Vals.one r3
   obtain⟨t1,rfl⟩:=r1
   obtain⟨t2,rfl⟩:=r2
   obtain⟨t3,rfl⟩:=r4
   exact call_gives F.slot_str_rfind (typeIs_str _ _ _) F.entry_str_rfind (F.args_str_rfind_4 _ _ _ _) (kx a b i j _ _ _ _) ⟨.int _,H,I.tok _,⟨_,rfl⟩,q⟩
def HM:R2:=λx y H Q=>∃(z:Str) (k:Int),x=.str z/\y=.int k/\2≤k/\k<2 ^ 32/\z.length≠0/\z.length*k.toNat≤sizeLine/\Q (.str ⟨(List.replicate k.toNat z.cps).foldl (·++·) #[]⟩) H
theorem tI(z:Array Nat):∀(n:Nat) (acc:Array Nat),((List.replicate n z).foldl (·++·) acc).size=acc.size+z.size*n
 | 0,acc=>by simp
 | n+1,acc=>by rw[List.replicate_succ,List.foldl_cons,tI z n];simp[Nat.mul_succ];lia
theorem GI:OpR X (binaryOp .Mult) HM:=by
 intro pins s σ H x y v u Q I rx ry h
 obtain⟨z,k,rfl,rfl,h1,h2,h3,h4,q⟩:=h
 obtain⟨t,rfl⟩:=rx
 obtain⟨t',rfl⟩:=ry
 have c0:¬ k<1:=by lia
 have c1:(k==1 || z.length==0)=false:=by
  rw[Bool.or_eq_false_iff,beq_eq_false_iff_ne,beq_eq_false_iff_ne]
  exact⟨by lia,h3⟩
 have hl:Builtin.Str.tooLong (z.length*k.toNat)=false:=by
  unfold Builtin.Str.tooLong
  exact decide_eq_false (by lia)
 refine P.mul_str (by rw[decide_eq_false (by lia),decide_eq_false (by lia)];rfl) (λ_ _=>?_) (λ_ _=>hl) ?_
 ·have a1:z.length≤sizeLine:=Nat.le_trans (Nat.le_mul_of_pos_right _ (by lia)) h4
  have a2:(z.length:Int)≤(2 ^ 63-1) / k:=by
   rw[Int.le_ediv_iff_mul_le (by lia)]
   have e:(z.length:Int)*k=((z.length*k.toNat:Nat):Int):=by rw[Int.natCast_mul,Int.toNat_of_nonneg (by lia)]
   have e2:sizeLine≤2 ^ 62:=by decide
   rw[e]
   lia
  lia
 ·rw[if_neg c0,if_neg (by rw[c1];decide)]
  refine⟨?_,.str _,H,I.tok _,⟨_,rfl⟩,q⟩
  show((List.replicate k.toNat z.cps).foldl (·++·) #[]).size≤sizeLine
  rw[tI]
  show 0+z.length*k.toNat≤sizeLine
  lia
end
end L2
namespace Fw
open PySem PySem.Spec PyProof.Rows L2
section
variable{X:Cx}{a b c:Expr}{da db dc:D}{pos:Pos}
theorem C8{K:PySem.W.Frag}:i6 K (λx vs H Q=>∃(a b:Str),x=.str a/\vs=[.str b]/\Q (.int (Txt.find a b)) H) pR:=by
 intro x F H u t w Q s hv hw q
 cases t with
 | str y =>
  cases hw
  have e:u=.str y:=hv
  subst e
  exact⟨x,y,rfl,rfl,q _ H F a_.refl (by rw[Rep])⟩
 | _=>cases hw
theorem zg{K:PySem.W.Frag}:i6 K (λx vs H Q=>∃(a b:Str),x=.str a/\vs=[.str b]/\Q (.int (Txt.rfind a b)) H) nD:=by
 intro x F H u t w Q s hv hw q
 cases t with
 | str y =>
  cases hw
  have e:u=.str y:=hv
  subst e
  exact⟨x,y,rfl,rfl,q _ H F a_.refl (by rw[Rep])⟩
 | _=>cases hw
theorem GJ{apos aP:Pos}(ho:CE X a da)(he:CE X b db)(cf:attributeBase a "find" X.env (eval a X.env)=eval a X.env:=by rfl)
  (fb:((backTo aP (starEach [b] X.env)).all (λx=>!x.1) && (backToKw aP (keywordEach [] X.env)).all (λx=>x.1.isSome) && decide (([b]:List Expr).length+([]:List Keyword).length+(if ([]:List Keyword).isEmpty then 0 else 1)<30))=true:=by rfl)
  (cD:(apos.endLine==aP.line)=true:=by rfl) (hs1:starEach [b] X.env=(false,eval b X.env)::starEach [] X.env:=by rfl) (hpl:(backTo aP (starEach [] X.env)).any (·.1)=false:=by rfl) :
  CE X (.Call (.Attribute a "find" apos) [b] [] aP) (bw pR da db):=kq PySem.F.slot_str_find PySem.F.type_str_find GH C8 ho he cf fb cD hs1 hpl
theorem C9{apos aP:Pos}(ho:CE X a da)(he:CE X b db)(cf:attributeBase a "rfind" X.env (eval a X.env)=eval a X.env:=by rfl)
  (fb:((backTo aP (starEach [b] X.env)).all (λx=>!x.1) && (backToKw aP (keywordEach [] X.env)).all (λx=>x.1.isSome) && decide (([b]:List Expr).length+([]:List Keyword).length+(if ([]:List Keyword).isEmpty then 0 else 1)<30))=true:=by rfl)
  (cD:(apos.endLine==aP.line)=true:=by rfl) (hs1:starEach [b] X.env=(false,eval b X.env)::starEach [] X.env:=by rfl) (hpl:(backTo aP (starEach [] X.env)).any (·.1)=false:=by rfl) :
  CE X (.Call (.Attribute a "rfind" apos) [b] [] aP) (bw nD da db):=kq PySem.F.slot_str_rfind PySem.F.type_str_rfind C6 zg ho he cf fb cD hs1 hpl
theorem C_{o e1 e2:Expr}{do_ de dc:D}{apos aP:Pos}(ho:CE X o do_)(he:CE X e1 de)(hc:CE X e2 dc)(cf:attributeBase o "find" X.env (eval o X.env)=eval o X.env:=by rfl)
  (fb:((backTo aP (starEach [e1,e2] X.env)).all (λx=>!x.1) && (backToKw aP (keywordEach [] X.env)).all (λx=>x.1.isSome) && decide (([e1,e2]:List Expr).length+([]:List Keyword).length+(if ([]:List Keyword).isEmpty then 0 else 1)<30))=true:=by rfl)
  (cD:(apos.endLine==aP.line)=true:=by rfl) (hs1:starEach [e1,e2] X.env=(false,eval e1 X.env)::starEach [e2] X.env:=by rfl) (hs2:starEach [e2] X.env=(false,eval e2 X.env)::starEach [] X.env:=by rfl) (hpl:(backTo aP (starEach [e2] X.env)).any (·.1)=false:=by rfl) :
  CE X (.Call (.Attribute o "find" apos) [e1,e2] [] aP) (qN do_ de dc) :=
 PE.imp (pg PySem.F.plainAttrs_str PySem.F.slot_str_find PySem.F.type_str_find C7 ho (ag he (ag hc au hs2) hs1) cf fb cD hs1 hpl) λσ H Q ao=>by
  obtain⟨F,α,e,μ,S,h⟩:=ao
  refine⟨F,α,e,μ,S,(R.wp_bind h).mono (λx μ1 h v H1 F1 α1 x1 S1 o1=>?_) λ_ _ h=>h⟩
  obtain⟨sep,hl,h3⟩:=R.aT (R.wp_bind h)
  cases x with
  | val t =>
   cases t with
   | str z =>
    cases hl
    have o1:v=.str sep:=Rep.eH (show Rep X.K F1 (.str sep) v from o1)
    subst o1
    refine⟨rfl,BS ⟨F1,α1,e,μ1,S1,(R.wp_bind h3).mono (λy μ2 h=>?_) λ_ _ h=>h.mono x1⟩⟩
    refine(R.wp_bind h).mono (λz μ3 h v2 v3 H3 F3 α3 x3 S3 o2 o3=>?_) λ_ _ h=>h.mono x1
    obtain⟨w,hw,post⟩:=R.aT h
    obtain⟨b,hb,hw⟩:=Option.bind_eq_some_iff.mp hw
    obtain⟨i,hi,rfl⟩:=Option.map_eq_some_iff.mp hw
    obtain⟨u,hu,hi⟩:=Option.bind_eq_some_iff.mp hi
    cases y with
    | val t =>
     cases t with
     | str y =>
      cases hb
      have e2:v2=.str b:=Rep.eH (show Rep X.K F3 (.str b) v2 from o2)
      cases u with
      | int j =>
       cases hi
       have e3:v3=.int i:=a5 S3.st o3 hu
       subst e2 e3
       exact⟨sep,b,i,rfl,rfl,post _ H3 F3 α3 (x1.trans x3) S3 (show Rep X.K F3 (.int _) _ by rw[Rep])⟩
      | _=>cases hi
     | _=>cases hb
    | cel j=>cases hb
    | box xs=>cases hb
   | _=>cases hl
  | cel j=>cases hl
  | box xs=>cases hl
theorem pS{o e1 e2 e3:Expr}{do_ de dc dd:D}{apos aP:Pos}(ho:CE X o do_)(he:CE X e1 de)(hc:CE X e2 dc)(hd:CE X e3 dd)(cf:attributeBase o "rfind" X.env (eval o X.env)=eval o X.env:=by rfl)
  (fb:((backTo aP (starEach [e1,e2,e3] X.env)).all (λx=>!x.1) && (backToKw aP (keywordEach [] X.env)).all (λx=>x.1.isSome) && decide (([e1,e2,e3]:List Expr).length+([]:List Keyword).length+(if ([]:List Keyword).isEmpty then 0 else 1)<30))=true:=by rfl)
  (cD:(apos.endLine==aP.line)=true:=by rfl) (hs1:starEach [e1,e2,e3] X.env=(false,eval e1 X.env)::starEach [e2,e3] X.env:=by rfl) (hs2:starEach [e2,e3] X.env=(false,eval e2 X.env)::starEach [e3] X.env:=by rfl) (hs3:starEach [e3] X.env=(false,eval e3 X.env)::starEach [] X.env:=by rfl) (hpl:(backTo aP (starEach [e2,e3] X.env)).any (·.1)=false:=by rfl) :
  CE X (.Call (.Attribute o "rfind" apos) [e1,e2,e3] [] aP) (i7 do_ de dc dd) :=
 PE.imp (pg PySem.F.plainAttrs_str PySem.F.slot_str_rfind PySem.F.type_str_rfind zf ho (ag he (ag hc (ag hd au hs3) hs2) hs1) cf fb cD hs1 hpl) λσ H Q ao=>by
  obtain⟨F,α,e,μ,S,h⟩:=ao
  refine⟨F,α,e,μ,S,(R.wp_bind h).mono (λx μ1 h v H1 F1 α1 x1 S1 o1=>?_) λ_ _ h=>h⟩
  obtain⟨sep,hl,h3⟩:=R.aT (R.wp_bind h)
  cases x with
  | val t =>
   cases t with
   | str z =>
    cases hl
    have o1:v=.str sep:=Rep.eH (show Rep X.K F1 (.str sep) v from o1)
    subst o1
    refine⟨rfl,LZ ⟨F1,α1,e,μ1,S1,(R.wp_bind h3).mono (λy μ2 h=>?_) λ_ _ h=>h.mono x1⟩⟩
    refine(R.wp_bind h).mono (λz μ3 h=>?_) λ_ _ h=>h.mono x1
    refine(R.wp_bind h).mono (λz2 μ4 h v2 v3 v4 H3 F3 α3 x3 S3 o2 o3 o4=>?_) λ_ _ h=>h.mono x1
    obtain⟨w,hw,post⟩:=R.aT h
    obtain⟨b,hb,hw⟩:=Option.bind_eq_some_iff.mp hw
    obtain⟨i,hi,hw⟩:=Option.bind_eq_some_iff.mp hw
    obtain⟨j,hj,rfl⟩:=Option.map_eq_some_iff.mp hw
    obtain⟨u,hu,hi⟩:=Option.bind_eq_some_iff.mp hi
    obtain⟨u2,hu2,hj⟩:=Option.bind_eq_some_iff.mp hj
    cases y with
    | val t =>
     cases t with
     | str y =>
      cases hb
      have e2:v2=.str b:=Rep.eH (show Rep X.K F3 (.str b) v2 from o2)
      cases u with
      | int j1 =>
       cases hi
       have e3:v3=.int i:=a5 S3.st o3 hu
       cases u2 with
       | int j2 =>
        cases hj
        have e4:v4=.int j:=a5 S3.st o4 hu2
        subst e2 e3 e4
        exact⟨sep,b,i,j,rfl,rfl,post _ H3 F3 α3 (x1.trans x3) S3 (show Rep X.K F3 (.int _) _ by rw[Rep])⟩
       | _=>cases hj
      | _=>cases hi
     | _=>cases hb
    | cel j=>cases hb
    | box xs=>cases hb
   | _=>cases hl
  | cel j=>cases hl
  | box xs=>cases hl
theorem Dc{K:PySem.W.Frag}:cF K HM ku:=by
 intro F H v u t t' w Q s hv hu hw q
 cases t with
 | str x =>
  cases t' with
  | int k =>
   have hw:(if 2≤k/\k<2 ^ 32/\x.length≠0/\x.length*k.toNat≤szL then some (T.str ⟨(List.replicate k.toNat x.cps).foldl (·++·) #[]⟩) else none)=some w:=hw
   by_cases hc:2≤k/\k<2 ^ 32/\x.length≠0/\x.length*k.toNat≤szL
   ·rw[if_pos hc] at hw
    cases hw
    cases hu.int
    cases hv.str
    exact⟨x,k,rfl,rfl,hc.1,hc.2.1,hc.2.2.1,hc.2.2.2,q _ H F a_.refl (Rep.u6 _)⟩
   ·rw[if_neg hc] at hw;cases hw
  | _=>cases hw
 | _=>cases hw
theorem xn(ha:CE X a da)(hb:CE X b db):CE X (.BinOp a .Mult b pos) (ah ku da db):=ll GI Dc ha hb
theorem Dd{K:PySem.W.Frag}:BO K (Cs K) eO:=by
 intro F H v u t t' w Q s hv hu hw q
 cases t with
 | lst xs =>
  cases t' with
  | lst ys =>
   have hw:(if xs.length+ys.length≤szL then some (T.lst (xs++ys)) else none)=some w:=hw
   by_cases hz:xs.length+ys.length≤szL
   ·rw[if_pos hz] at hw
    cases hw
    obtain⟨a,vs,rfl,ha,ra⟩:=hv.l5
    obtain⟨b,us,rfl,hb,rb⟩:=hu.l5
    exact⟨a,b,vs,us,rfl,rfl,ha,hb,by have:=ra.length;have:=rb.length;rw[ng] at hz;lia,λp hp=>q p _ hp ⟨_,aH,ra.append rb⟩⟩
   ·rw[if_neg hz] at hw;cases hw
  | _=>cases hw
 | _=>cases hw
theorem mx(ha:CE X a da)(hb:CE X b db):CF X (.BinOp a .Add b pos) (ah eO da db):=Jq w_ Dd ha hb
theorem nF(ha:CE X a da)(hb:CE X b db)(hc:CE X c dc)(hm:lastMarks [.Lt,.LtE] [b,c]=false:=by with_unfolding_all rfl):CE X (.Compare a [.Lt,.LtE] [b,c] pos) (eF fLt fLe da db dc) :=
 PE.imp (sh HA wJ ha hb hc hm) (nj Co qH JK)
end
section
variable{P:Program}{w:World}{K:PySem.W.Frag}{mg:Str->Option Value}{base:Heap}
theorem nG{f:Addr}{fd:FuncData}{ps:List Str}:gb P w K mg base (CX1 P w) 0 f fd ps (spX K mg (λ_ _=>.bad) ps.length) :=
 ⟨λvs H Q E h=>h.1,λA outer s H args us vs Q E _ _ _ _ h=>by obtain⟨_,_,_,_,_,_,_,h⟩:=h;exact h.elim⟩
end
end Fw
namespace L2
open PySem PySem.Spec PyProof.Rows
section
variable{X:Cx}{pins:List (Addr×Obj)}{σ:L2.St}{H0 H':Hp}{e t Cc C:Addr}{B h4 h':Heap}{s1 s3:Shared}{oC:Obj}
end
end L2
namespace L2
open PySem PySem.Spec PyProof.Rows Fw
section
variable{X:Cx}{elt iter tg:Expr}{scope:Scope}{pos:Pos}{N':List Str}{g:TG}{mp:List (Option Nat)}{d:D}
end
end L2
namespace Fw
open PySem L2 PyProof.Rows
section
variable{X:Cx}{di:DI}{mp:List (Option Nat)}{b:BD}{d:D}
end
end Fw
namespace L2
open PySem PySem.Spec PyProof.Rows Fw
section
variable{X:Cx}
end
end L2
namespace Fw
open PySem L2 PyProof.Rows
section
variable{X:Cx}{a b:Expr}{da db:D}{p pos:Pos}
theorem GK(hm:X.mg "int"=none)(ha:CE X a da)(hg:Gl X "int":=by rfl)(hs1:starEach [a] X.env=(false,eval a X.env)::starEach [] X.env:=by rfl)(hpl:(backTo pos (starEach [] X.env)).any (·.1)=false:=by rfl) :
  CE X (.Call (.Name "int" p) [a] [] pos) (dUn pO da):=qB y9 CQ hm (by decide +kernel) ha hg (by decide) (by decide) hs1 hpl
theorem De{apos aP:Pos}(ho:CE X a da)(he:CE X b db)(cf:attributeBase a "split" X.env (eval a X.env)=eval a X.env:=by rfl)
  (fb:((backTo aP (starEach [b] X.env)).all (λx=>!x.1) && (backToKw aP (keywordEach [] X.env)).all (λx=>x.1.isSome) && decide (([b]:List Expr).length+([]:List Keyword).length+(if ([]:List Keyword).isEmpty then 0 else 1)<30))=true:=by rfl)
  (cD:(apos.endLine==aP.line)=true:=by rfl) (hs1:starEach [b] X.env=(false,eval b X.env)::starEach [] X.env:=by rfl) (hpl:(backTo aP (starEach [] X.env)).any (·.1)=false:=by rfl) :
  CE X (.Call (.Attribute a "split" apos) [b] [] aP) (bw ny da db):=kq PySem.F.slot_str_split PySem.F.type_str_split CN y8 ho he cf fb cD hs1 hpl
end
end Fw
namespace Fw.k12
open PySem Fw
def gs:DS :=
 (aK (ah fEq (aF (ae 0) (dC (.int 0))) (dC (.str "hand"))))
def bN:FN:=fnV 1 gs
def bI(bA:FN):DS :=
 (aq (sIf (ax (cal bN) [(ae 0)]) (aK (bq [(aF (ae 0) (dC (.int 1)))])) a6)
 (aq (az 1 (bQ (bq [])))
 (aq (fg (fB (aF (ae 0) (dC (.int 2)))) (aS 2) (mw (ae 1) (ax (cal bA) [(ae 2)])))
 (aK (ae 1)))))
def cN:Nat->FN
 | 0=>λ_ _=>.bad
 | n+1=>fnV 3 (bI (cN n))
def i8:DS :=
 (aq (sIf (ah fEq (ae 0) (ae 1)) (aK (dC (.str "all ("))) a6)
 (aq (sIf (ah fEq (ae 0) (dC (.int 1))) (aK (dC (.str "one ("))) a6)
 (aK (dFs [(dUn oU (ae 0)),(dC (.str " of ("))]))))
def b5:FN:=fnV 2 i8
def dm(fm:FN):DS :=
 (aq (sIf (ax (cal bN) [(ae 0)]) (aK (aF (dC (.str "abcdefghijklmnopqrstuvwxyz")) (aF (ae 0) (dC (.int 1))))) a6)
 (aq (az 1 (ax (cal b5) [(aF (ae 0) (dC (.int 1))),(cC (aF (ae 0) (dC (.int 2))))]))
 (aq (az 2 (bw cT (dC (.str ", ")) (dj (fB (aF (ae 0) (dC (.int 2)))) [none] (aS 0) (dC (.bl true)) (ax (cal fm) [(ae 0)]))))
 (aK (dFs [(dUn oU (ae 1)),(dUn oU (ae 2)),(dC (.str ")"))])))))
def cO:Nat->FN
 | 0=>λ_ _=>.bad
 | n+1=>fnV 3 (dm (cO n))
def fo(eS gH fZ:FN):DS :=
 (aq (fg (fB (dC (.tup ((["all (","one (","2 of (","3 of (","4 of (","5 of (","6 of (","7 of (","8 of (","9 of ("]:List Str).map T.str)))) (aS 3) (sIf (fJ (ae 0) (ae 3) (ae 1)) (aK (ax gH [(ae 0),(ae 1),(ae 3),(ah av (ae 2) (dC (.int 1)))])) a6))
 (aq (az 4 (cA (ae 0) (some (ae 1)) (some (ah av (ae 1) (dC (.int 1))))))
 (aq (sIf (dOr (ah fEq (ae 4) (dC (.str ""))) (ah ko (ae 4) (dC (.str "abcdefghij")))) (c9 "NoRule") a6)
 (cV (aK (eP [(eP [(dC (.str "hand")),(bw nz (dC (.str "abcdefghij")) (ae 4))]),(ah av (ae 1) (dC (.int 1)))]))))))
def c_(eS gH fZ:FN):DS :=
 (aq (sIf (ah fGt (ae 3) (dC (.int 5))) (c9 "NoRule") a6)
 (aq (az 4 (ax fZ [(ae 0),(ah av (ae 1) (cC (ae 2))),(ae 3)]))
 (aq (az 5 (aF (ae 4) (dC (.int 0))))
 (aq (sIf (ah fGt (cC (ae 5)) (dC (.int 10))) (c9 "NoRule") a6)
 (aq (fg (mj (dC (.int 1)) (ah av (cC (ae 5)) (dC (.int 1)))) (aS 6) (cV (sIf (ah fEq (ax (cal b5) [(ae 6),(cC (ae 5))]) (ae 2)) (aK (eP [(eP [(dC (.str "some")),(ae 6),(ae 5)]),(aF (ae 4) (dC (.int 1)))])) a6)))
 (c9 "NoRule"))))))
def fK(eS gH fZ:FN):DS :=
 (aq (az 3 (ax eS [(ae 0),(ae 1),(ae 2)]))
 (aq (az 4 (bQ (bq [(aF (ae 3) (dC (.int 0)))])))
 (aq (eG (fJ (ae 0) (dC (.str ", ")) (aF (ae 3) (dC (.int 1)))) (aq (az 3 (ax eS [(ae 0),(ah av (aF (ae 3) (dC (.int 1))) (dC (.int 2))),(ae 2)]))
 (cV (cX (ae 4) (aF (ae 3) (dC (.int 0)))))))
 (aq (sIf (gA (fJ (ae 0) (dC (.str ")")) (aF (ae 3) (dC (.int 1))))) (c9 "NoRule") a6)
 (cV (aK (eP [(dUn jF (ae 4)),(ah av (aF (ae 3) (dC (.int 1))) (dC (.int 1)))])))))))
mutual
def bO:Nat->FN
 | 0=>λ_ _=>.bad
 | n+1=>fnV 5 (fo (bO n) (b6 n) (bK n))
def b6:Nat->FN
 | 0=>λ_ _=>.bad
 | n+1=>fnV 7 (c_ (bO n) (b6 n) (bK n))
def bK:Nat->FN
 | 0=>λ_ _=>.bad
 | n+1=>fnV 5 (fK (bO n) (b6 n) (bK n))
end
def gI:DS :=
 (aq (sIf (gA (dIs .str (ae 0))) (c9 "NoRule") a6)
 (aq (az 1 (ax (bO 24) [(ae 0),(dC (.int 0)),(dC (.int 0))]))
 (aq (sIf (ah fNe (aF (ae 1) (dC (.int 1))) (cC (ae 0))) (c9 "NoRule") a6)
 (aq (sIf (ah fGt (cC (ax (cal (cN 8)) [(aF (ae 1) (dC (.int 0)))])) (dC (.int 20))) (c9 "NoRule") a6)
 (cV (aK (aF (ae 1) (dC (.int 0)))))))))
def aZ:FN:=fnV 2 gI
def nH:DS :=
 (aq (sIf (ah fLt (ae 1) (cC (ae 0))) (aK (aF (ae 0) (ae 1))) a6)
 (aq (sIf (ah fEq (cC (ae 0)) (dC (.int 0))) (aK (ah av (ah cg (ah cg (ae 1) (ae 1)) (dC (.int 48271))) (ah cg (dC (.int 7)) (ae 1)))) a6)
 (aK (ah av (ah cB (aF (ae 0) (ah bp (ae 1) (cC (ae 0)))) (ah av (dC (.int 1)) (ah cB (ae 1) (cC (ae 0))))) (ah cg (ah cg (ae 1) (ae 1)) (dC (.int 7919)))))))
def aO:FN:=fnV 2 nH
def qO:DS :=
 (aq (az 4 (ax (cal aO) [(ae 0),(ae 1)]))
 (aq (az 5 (bQ (bq [])))
 (aq (fg (cY (ae 3)) (aS 6) (sIf (ah fEq (ah bp (ax (cal aO) [(ae 0),(dC (.int 0))]) (dC (.int 2))) (dC (.int 0))) (aq (cX (ae 5) (ah bp (ae 4) (ae 2)))
 (az 4 (ah cB (ae 4) (ae 2)))) (aq (az 4 (ah bp (ah cg (ah av (ah bp (ae 4) (dC (.int 2147483647))) (dC (.int 1))) (dC (.int 48271))) (dC (.int 2147483647))))
 (cX (ae 5) (ah bp (ah cB (ah bp (ah av (ah cg (ae 4) (dC (.int 69621))) (ah cg (ae 6) (dC (.int 16807)))) (dC (.int 2147483629))) (dC (.int 11))) (ae 2))))))
 (aK (ae 5)))))
def jo:FN:=fnV 7 qO
def tJ(cH:FN):DS :=
 (aq (az 3 (aF (ae 0) (ah bp (aF (ae 1) (dC (.int 0))) (cC (ae 0)))))
 (aq (gh 1 (dC (.int 0)) (ah av (aF (ae 1) (dC (.int 0))) (dC (.int 1))))
 (aq (sIf (dOr (ah fEq (ae 2) (dC (.int 0))) (dOr (ah fLt (aF (ae 1) (dC (.int 1))) (dC (.int 1))) (ah fEq (ah bp (ae 3) (dC (.int 4))) (dC (.int 0))))) (aK (eP [(dC (.str "hand")),(ah bp (ah cB (ae 3) (dC (.int 4))) (dC (.int 10)))])) a6)
 (aq (az 4 (ah av (dC (.int 1)) (ah Ge (aF (ae 1) (dC (.int 1))) (ah bp (ah cB (ae 3) (dC (.int 40))) (dC (.int 10))))))
 (aq (gh 1 (dC (.int 1)) (ah av (ah k_ (aF (ae 1) (dC (.int 1))) (ae 4)) (dC (.int 1))))
 (aq (az 5 (ah av (dC (.int 1)) (ah bp (ah cB (ae 3) (dC (.int 400))) (ae 4))))
 (aK (eP [(dC (.str "some")),(ae 5),(dUn jF (dj (cY (ae 4)) [none,some 0,some 1,some 2] (aS 0) (dC (.bl true)) (ax (cal cH) [(ae 1),(ae 2),(ah k_ (ae 3) (dC (.int 1)))])))]))))))))
def eT:Nat->FN
 | 0=>λ_ _=>.bad
 | n+1=>fnV 6 (tJ (eT n))
def ky:DS :=
 (aq (az 2 (ax (cal jo) [(ae 0),(ae 1),(dC (.int 4000)),(dC (.int 24))]))
 (aK (ax (cal (eT 8)) [(ae 2),(bQ (bq [(dC (.int 0)),(dC (.int 19))])),(aF (bq [(dC (.int 1)),(dC (.int 2)),(dC (.int 5)),(dC (.int 3)),(dC (.int 5)),(dC (.int 4))]) (ah bp (ax (cal aO) [(ae 0),(ah av (ae 1) (dC (.int 1)))]) (dC (.int 6))))])))
def bB:FN:=fnV 3 ky
def tK(fq:FN):DS :=
 (aq (sIf (ah fEq (aF (ae 0) (dC (.int 0))) (dC (.str "hand"))) (aK (aF (dC (.str "abcdefghij")) (aF (ae 0) (dC (.int 1))))) a6)
 (aq (az 1 (bw cT (dC (.str ", ")) (dj (fB (aF (ae 0) (dC (.int 2)))) [none] (aS 0) (dC (.bl true)) (ax (cal fq) [(ae 0)]))))
 (aq (sIf (ah fEq (aF (ae 0) (dC (.int 1))) (cC (aF (ae 0) (dC (.int 2))))) (aK (ah av (ah av (dC (.str "all (")) (ae 1)) (dC (.str ")")))) a6)
 (aq (sIf (ah fEq (aF (ae 0) (dC (.int 1))) (dC (.int 1))) (aK (ah av (ah av (dC (.str "one (")) (ae 1)) (dC (.str ")")))) a6)
 (aK (ah av (ah av (ah av (dUn yQ (aF (ae 0) (dC (.int 1)))) (dC (.str " of ("))) (ae 1)) (dC (.str ")"))))))))
def b7:Nat->FN
 | 0=>λ_ _=>.bad
 | n+1=>fnV 2 (tK (b7 n))
def gu:DS :=
 (aq (sIf (ah fEq (ae 0) (dC (.str "all"))) (aK (eF fLe fLe (dC (.int 1)) (ae 1) (dC (.int 10)))) a6)
 (aq (sIf (ah fEq (ae 0) (dC (.str "one"))) (aK (eF fLe fLe (dC (.int 2)) (ae 1) (dC (.int 10)))) a6)
 (aK (j_ (ah fEq (cC (ae 0)) (dC (.int 4))) (j_ (ah fEq (cA (ae 0) (some (dC (.int 1))) none) (dC (.str " of"))) (j_ (ah dM (aF (ae 0) (dC (.int 0))) (dC (.str "23456789"))) (eF fLt fLe (dUn pO (aF (ae 0) (dC (.int 0)))) (ae 1) (dC (.int 10)))))))))
def bL:FN:=fnV 2 gu
def cP:DS :=
 (aq (az 1 (bw nD (ae 0) (dC (.str "("))))
 (aq (az 2 (qN (ae 0) (dC (.str ")")) (ae 1)))
 (aq (sIf (dOr (ah fLt (ae 1) (dC (.int 1))) (dOr (ah fLt (ae 2) (dC (.int 0))) (ah fNe (aF (ae 0) (ah k_ (ae 1) (dC (.int 1)))) (dC (.str " "))))) (aK (dC (.non))) a6)
 (aq (az 3 (bw ny (cA (ae 0) (some (ah av (ae 1) (dC (.int 1)))) (some (ae 2))) (dC (.str ", "))))
 (aq (az 4 (ah av (i7 (ae 0) (dC (.str "(")) (dC (.int 0)) (ae 1)) (dC (.int 1))))
 (aq (sIf (ah dM (dC (.str ", ")) (cA (ae 0) (some (ae 4)) (some (ae 1)))) (az 4 (ah av (i7 (ae 0) (dC (.str ", ")) (dC (.int 0)) (ae 1)) (dC (.int 2)))) a6)
 (aq (sIf (gA (ax (cal bL) [(cA (ae 0) (some (ae 4)) (some (ah k_ (ae 1) (dC (.int 1))))),(cC (ae 3))])) (aK (dC (.non))) a6)
 (aq (az 5 (dC (.int 0)))
 (aq (az 6 (dC (.int 0)))
 (aq (fg (fB (ae 3)) (aS 7) (aq (sIf (dOr (ah fNe (cC (ae 7)) (dC (.int 1))) (ah ko (ae 7) (dC (.str "abcdefghij#$&*!")))) (aK (dC (.non))) a6)
 (aq (az 5 (ah yL (ae 5) (ah av (bw pR (dC (.str "#$&*!")) (ae 7)) (dC (.int 1)))))
 (az 6 (ah av (ae 6) (dUn yO (ah dM (ae 7) (dC (.str "abcdefghij")))))))))
 (aq (sIf (ah fEq (ae 5) (dC (.int 5))) (aK (dC (.non))) a6)
 (aK (eP [(ah av (ah av (cA (ae 0) none (some (ae 4))) (aF (dC (.str "#$&*!")) (ae 5))) (cA (ae 0) (some (ah av (ae 2) (dC (.int 1)))) none)),(ae 6)])))))))))))))
def gJ:DS:=(az 1 (bw nD (ae 0) (dC (.str "("))))
def gK:DS:=(az 2 (qN (ae 0) (dC (.str ")")) (ae 1)))
def bP:DS:=(sIf (dOr (ah fLt (ae 1) (dC (.int 1))) (dOr (ah fLt (ae 2) (dC (.int 0))) (ah fNe (aF (ae 0) (ah k_ (ae 1) (dC (.int 1)))) (dC (.str " "))))) (aK (dC (.non))) a6)
def gL:DS:=(az 3 (bw ny (cA (ae 0) (some (ah av (ae 1) (dC (.int 1)))) (some (ae 2))) (dC (.str ", "))))
def ft:DS:=(az 4 (ah av (i7 (ae 0) (dC (.str "(")) (dC (.int 0)) (ae 1)) (dC (.int 1))))
def cI:DS:=(sIf (ah dM (dC (.str ", ")) (cA (ae 0) (some (ae 4)) (some (ae 1)))) (az 4 (ah av (i7 (ae 0) (dC (.str ", ")) (dC (.int 0)) (ae 1)) (dC (.int 2)))) a6)
def gM:DS:=(sIf (gA (ax (cal bL) [(cA (ae 0) (some (ae 4)) (some (ah k_ (ae 1) (dC (.int 1))))),(cC (ae 3))])) (aK (dC (.non))) a6)
def gN:DS:=(az 5 (dC (.int 0)))
def gO:DS:=(az 6 (dC (.int 0)))
def gP:DS:=(fg (fB (ae 3)) (aS 7) (aq (sIf (dOr (ah fNe (cC (ae 7)) (dC (.int 1))) (ah ko (ae 7) (dC (.str "abcdefghij#$&*!")))) (aK (dC (.non))) a6)
 (aq (az 5 (ah yL (ae 5) (ah av (bw pR (dC (.str "#$&*!")) (ae 7)) (dC (.int 1)))))
 (az 6 (ah av (ae 6) (dUn yO (ah dM (ae 7) (dC (.str "abcdefghij")))))))))
def dn:DS:=(sIf (ah fEq (ae 5) (dC (.int 5))) (aK (dC (.non))) a6)
def fL:DS:=(aK (eP [(ah av (ah av (cA (ae 0) none (some (ae 4))) (aF (dC (.str "#$&*!")) (ae 5))) (cA (ae 0) (some (ah av (ae 2) (dC (.int 1)))) none)),(ae 6)]))
def iN:DS:=fL
def fM:DS:=aq dn iN
def jN:DS:=aq gP fM
def jO:DS:=aq gO jN
def jP:DS:=aq gN jO
def dU:DS:=aq gM jP
def vx:DS:=aq cI dU
def jQ:DS:=aq ft vx
def jR:DS:=aq gL jQ
def jS:DS:=aq bP jR
def jT:DS:=aq gK jS
def nJ:DS:=aq gJ jT
theorem nK:cP=nJ:=rfl
theorem jq(e:Slots)(μ:aa):nJ e μ=(gJ e μ).seq jT:=rfl
theorem jr(e:Slots)(μ:aa):jT e μ=(gK e μ).seq jS:=rfl
theorem js(e:Slots)(μ:aa):jS e μ=(bP e μ).seq jR:=rfl
theorem oV(e:Slots)(μ:aa):jR e μ=(gL e μ).seq jQ:=rfl
theorem jt(e:Slots)(μ:aa):dU e μ=(gM e μ).seq jP:=rfl
theorem oW(e:Slots)(μ:aa):jP e μ=(gN e μ).seq jO:=rfl
theorem oX(e:Slots)(μ:aa):jO e μ=(gO e μ).seq jN:=rfl
theorem oY(e:Slots)(μ:aa):jN e μ=(gP e μ).seq fM:=rfl
theorem nL(e:Slots)(μ:aa):fM e μ=(dn e μ).seq iN:=rfl
theorem nM(e:Slots)(μ:aa):iN e μ=fL e μ:=rfl
def aX:FN:=fnV 8 cP
def dE:DS :=
 (aq (sIf (ah fNe (dj (y7 (ae 0)) [none] (aS 0) (ah dM (ae 0) (dC (.str "#$&*!"))) (ae 0)) (bq [])) (aK (dC (.bl false))) a6)
 (aq (az 1 (dC (.int 0)))
 (aq (eG (ah dM (dC (.str "(")) (ae 0)) (aq (az 2 (ax (cal aX) [(ae 0)]))
 (aq (sIf (dUn iw (ae 2)) (aK (dC (.bl false))) a6)
 (aq (az 1 (ah av (ae 1) (aF (ae 2) (dC (.int 1)))))
 (az 0 (aF (ae 2) (dC (.int 0))))))))
 (aK (j_ (ah fEq (cC (ae 0)) (dC (.int 1))) (j_ (ah dM (ae 0) (dC (.str "abcdefghij#$&*!"))) (ah fLe (ae 1) (dC (.int 20)))))))))
def eU:DS:=(sIf (ah fNe (dj (y7 (ae 0)) [none] (aS 0) (ah dM (ae 0) (dC (.str "#$&*!"))) (ae 0)) (bq [])) (aK (dC (.bl false))) a6)
def eV:DS:=(az 1 (dC (.int 0)))
def gQ:DS:=(eG (ah dM (dC (.str "(")) (ae 0)) (aq (az 2 (ax (cal aX) [(ae 0)]))
 (aq (sIf (dUn iw (ae 2)) (aK (dC (.bl false))) a6)
 (aq (az 1 (ah av (ae 1) (aF (ae 2) (dC (.int 1)))))
 (az 0 (aF (ae 2) (dC (.int 0))))))))
def eW:DS:=(aK (j_ (ah fEq (cC (ae 0)) (dC (.int 1))) (j_ (ah dM (ae 0) (dC (.str "abcdefghij#$&*!"))) (ah fLe (ae 1) (dC (.int 20))))))
def gR:DS:=eW
def gS:DS:=aq gQ gR
def gT:DS:=aq eV gS
def kz:DS:=aq eU gT
theorem gU:dE=kz:=rfl
theorem eK(e:Slots)(μ:aa):kz e μ=(eU e μ).seq gT:=rfl
theorem ie(e:Slots)(μ:aa):gT e μ=(eV e μ).seq gS:=rfl
theorem ig(e:Slots)(μ:aa):gS e μ=(gQ e μ).seq gR:=rfl
theorem l7(e:Slots)(μ:aa):gR e μ=eW e μ:=rfl
def cp:FN:=fnV 3 dE
def jU:DS :=
 (aq (az 1 (dC (.str "a")))
 (aq (fg (cY (ah av (dC (.int 4)) (ah bp (ah cB (ae 0) (dC (.int 40))) (dC (.int 4))))) (aS 2) (az 1 (ah av (ah av (aF (bq [(dC (.str "all (")),(dC (.str "one (a, ")),(dC (.str "2 of (b, c, "))]) (ah bp (ah cB (ae 0) (dC (.int 160))) (dC (.int 3)))) (ae 1)) (dC (.str ")")))))
 (aq (az 3 (ah av (dC (.int 19)) (ah bp (ah cB (ae 0) (dC (.int 40))) (dC (.int 3)))))
 (aq (az 4 (bQ (bq [(dC (.str "")),(dC (.str " ")),(dC (.str "k")),(dC (.str "A")),(dC (.str "all")),(dC (.str "all ()")),(dC (.str "all a")),(dC (.str "all(a)")),(dC (.str "all (a")),(dC (.str "all (a))")),(dC (.str "one (a)")),(dC (.str "1 of (a, b)"))])))
 (aq (az 4 (bQ (ah eO (ae 4) (bq [(dC (.str "a, b")),(dC (.str "2 of (a, b)")),(dC (.str "2 of (a, b, c)")),(dC (.str "02 of (a, b, c)")),(dC (.str "3 of (a, b)")),(dC (.str "0 of (a, b)")),(dC (.str "a "))]))))
 (aq (az 4 (bQ (ah eO (ae 4) (bq [(dC (.str "10 of (a, b)")),(dC (.str "all (a,b)")),(dC (.str "all (a,  b)")),(dC (.str "all (a, b, )")),(dC (.str "All (a, b)")),(dC (.str "one  (a, b)")),(dC (.str "\na"))]))))
 (aq (az 4 (bQ (ah eO (ae 4) (bq [(dC (.str "one of (a, b)")),(dC (.str "two of (a, b, c)")),(dC (.str "2 of (a, b, c) ")),(dC (.str " 2 of (a, b, c)")),(dC (.str "2  of (a, b, c)"))]))))
 (aq (az 4 (bQ (ah eO (ae 4) (bq [(dC (.str "2 of(a, b, c)")),(dC (.str "all (a, a)")),(dC (.str "(a, b)")),(dC (.str "2 of [a, b, c]")),(dC (.str "all (1)")),(dC (.str "one (a, b) c")),(dC (.str "a\n")),(ae 1)]))))
 (aq (cX (ae 4) (ah av (ah av (dC (.str "all (")) (bw cT (dC (.str ", ")) (lZ l4 [(dC (.str "a"))] (ah av (dC (.int 10)) (ah bp (ah cB (ae 0) (dC (.int 40))) (dC (.int 2))))))) (dC (.str ")"))))
 (aq (az 5 (dj (fB (bq [(dC (.int 7)),(dC (.int 7)),(ah k_ (ae 3) (dC (.int 14)))])) [none] (aS 0) (dC (.bl true)) (ah av (ah av (dC (.str "all (")) (bw cT (dC (.str ", ")) (lZ l4 [(dC (.str "j"))] (ae 0)))) (dC (.str ")")))))
 (aq (cX (ae 4) (ah av (ah av (dC (.str "all (")) (bw cT (dC (.str ", ")) (ae 5))) (dC (.str ")"))))
 (aK (aF (ae 4) (ah bp (ae 0) (dC (.int 41))))))))))))))))
def kA:DS:=(az 1 (dC (.str "a")))
def kB:DS:=(fg (cY (ah av (dC (.int 4)) (ah bp (ah cB (ae 0) (dC (.int 40))) (dC (.int 4))))) (aS 2) (az 1 (ah av (ah av (aF (bq [(dC (.str "all (")),(dC (.str "one (a, ")),(dC (.str "2 of (b, c, "))]) (ah bp (ah cB (ae 0) (dC (.int 160))) (dC (.int 3)))) (ae 1)) (dC (.str ")")))))
def kC:DS:=(az 3 (ah av (dC (.int 19)) (ah bp (ah cB (ae 0) (dC (.int 40))) (dC (.int 3)))))
def kD:DS:=(az 4 (bQ (bq [(dC (.str "")),(dC (.str " ")),(dC (.str "k")),(dC (.str "A")),(dC (.str "all")),(dC (.str "all ()")),(dC (.str "all a")),(dC (.str "all(a)")),(dC (.str "all (a")),(dC (.str "all (a))")),(dC (.str "one (a)")),(dC (.str "1 of (a, b)"))])))
def nN:DS:=(az 4 (bQ (ah eO (ae 4) (bq [(dC (.str "a, b")),(dC (.str "2 of (a, b)")),(dC (.str "2 of (a, b, c)")),(dC (.str "02 of (a, b, c)")),(dC (.str "3 of (a, b)")),(dC (.str "0 of (a, b)")),(dC (.str "a "))]))))
def nO:DS:=(az 4 (bQ (ah eO (ae 4) (bq [(dC (.str "10 of (a, b)")),(dC (.str "all (a,b)")),(dC (.str "all (a,  b)")),(dC (.str "all (a, b, )")),(dC (.str "All (a, b)")),(dC (.str "one  (a, b)")),(dC (.str "\na"))]))))
def nP:DS:=(az 4 (bQ (ah eO (ae 4) (bq [(dC (.str "one of (a, b)")),(dC (.str "two of (a, b, c)")),(dC (.str "2 of (a, b, c) ")),(dC (.str " 2 of (a, b, c)")),(dC (.str "2  of (a, b, c)"))]))))
def kE:DS:=(az 4 (bQ (ah eO (ae 4) (bq [(dC (.str "2 of(a, b, c)")),(dC (.str "all (a, a)")),(dC (.str "(a, b)")),(dC (.str "2 of [a, b, c]")),(dC (.str "all (1)")),(dC (.str "one (a, b) c")),(dC (.str "a\n")),(ae 1)]))))
def kF:DS:=(cX (ae 4) (ah av (ah av (dC (.str "all (")) (bw cT (dC (.str ", ")) (lZ l4 [(dC (.str "a"))] (ah av (dC (.int 10)) (ah bp (ah cB (ae 0) (dC (.int 40))) (dC (.int 2))))))) (dC (.str ")"))))
def kG:DS:=(az 5 (dj (fB (bq [(dC (.int 7)),(dC (.int 7)),(ah k_ (ae 3) (dC (.int 14)))])) [none] (aS 0) (dC (.bl true)) (ah av (ah av (dC (.str "all (")) (bw cT (dC (.str ", ")) (lZ l4 [(dC (.str "j"))] (ae 0)))) (dC (.str ")")))))
def i9:DS:=(cX (ae 4) (ah av (ah av (dC (.str "all (")) (bw cT (dC (.str ", ")) (ae 5))) (dC (.str ")"))))
def i_:DS:=(aK (aF (ae 4) (ah bp (ae 0) (dC (.int 41)))))
def lB:DS:=i_
def lC:DS:=aq i9 lB
def nQ:DS:=aq kG lC
def nR:DS:=aq kF nQ
def nS:DS:=aq kE nR
def nT:DS:=aq nP nS
def nU:DS:=aq nO nT
def nV:DS:=aq nN nU
def nW:DS:=aq kD nV
def nX:DS:=aq kC nW
def nY:DS:=aq kB nX
def tL:DS:=aq kA nY
theorem Df:jU=tL:=rfl
theorem tM(e:Slots)(μ:aa):tL e μ=(kA e μ).seq nY:=rfl
theorem tN(e:Slots)(μ:aa):nY e μ=(kB e μ).seq nX:=rfl
theorem tO(e:Slots)(μ:aa):nX e μ=(kC e μ).seq nW:=rfl
theorem tP(e:Slots)(μ:aa):nW e μ=(kD e μ).seq nV:=rfl
theorem tQ(e:Slots)(μ:aa):nV e μ=(nN e μ).seq nU:=rfl
theorem tR(e:Slots)(μ:aa):nU e μ=(nO e μ).seq nT:=rfl
theorem tS(e:Slots)(μ:aa):nT e μ=(nP e μ).seq nS:=rfl
theorem tT(e:Slots)(μ:aa):nS e μ=(kE e μ).seq nR:=rfl
theorem tU(e:Slots)(μ:aa):nR e μ=(kF e μ).seq nQ:=rfl
theorem tV(e:Slots)(μ:aa):nQ e μ=(kG e μ).seq lC:=rfl
theorem qP(e:Slots)(μ:aa):lC e μ=(i9 e μ).seq lB:=rfl
theorem qQ(e:Slots)(μ:aa):lB e μ=i_ e μ:=rfl
def dq:FN:=fnV 6 jU
def ju:DS :=
 (aq (az 2 (ah bp (ah cB (ae 1) (dC (.int 5))) (cC (ae 0))))
 (aq (az 3 (aF (dC (.str "abcdefghijklmnof ,()0123456789A-")) (ah bp (ah cB (ae 1) (dC (.int 5000))) (dC (.int 32)))))
 (aq (az 4 (bq [(ah av (cA (ae 0) none (some (ae 2))) (cA (ae 0) (some (ah av (ae 2) (dC (.int 1)))) none)),(ah av (ah av (cA (ae 0) none (some (ae 2))) (ae 3)) (cA (ae 0) (some (ae 2)) none)),(ah av (ah av (cA (ae 0) none (some (ae 2))) (ae 3)) (cA (ae 0) (some (ah av (ae 2) (dC (.int 1)))) none))]))
 (aq (az 4 (ah av (ae 4) (bq [(ah av (ah av (cA (ae 0) none (some (ae 2))) (aF (ae 0) (ae 2))) (cA (ae 0) (some (ae 2)) none)),(cA (ae 0) none (some (ah av (ae 2) (dC (.int 1)))))])))
 (aK (aF (ae 4) (ah bp (ae 1) (dC (.int 5)))))))))
def bC:FN:=fnV 5 ju
def fN:DS :=
 (aq (az 1 (dC (.non)))
 (aq (az 2 (dC (.non)))
 (aq (vg (az 2 (ax aZ [(ae 0)])) (λn=>if n="NoRule" then (sAs 3 "NoRule" (az 1 (j_ (ly (λn=>if n="NoRule" then some true else none) (ae 3)) (ly (λn=>if n="NoRule" then some true else none) (ae 3))))) else yC))
 (aK (eP [(ae 2),(ae 1)])))))
def ja:DS:=(az 1 (dC (.non)))
def jb:DS:=(az 2 (dC (.non)))
def gv:DS:=(vg (az 2 (ax aZ [(ae 0)])) (λn=>if n="NoRule" then (sAs 3 "NoRule" (az 1 (j_ (ly (λn=>if n="NoRule" then some true else none) (ae 3)) (ly (λn=>if n="NoRule" then some true else none) (ae 3))))) else yC))
def e9:DS:=(aK (eP [(ae 2),(ae 1)]))
def lD:DS:=e9
def lE:DS:=aq gv lD
def lF:DS:=aq jb lE
def pT:DS:=aq ja lF
theorem zh:fN=pT:=rfl
theorem qR(e:Slots)(μ:aa):pT e μ=(ja e μ).seq lF:=rfl
theorem qS(e:Slots)(μ:aa):lF e μ=(jb e μ).seq lE:=rfl
theorem qT(e:Slots)(μ:aa):lE e μ=(gv e μ).seq lD:=rfl
theorem kH(e:Slots)(μ:aa):lD e μ=e9 e μ:=rfl
def bc:FN:=fnV 4 fN
def gW:DS :=
 (aq (Jv [1,2] (ax (cal bc) [(ae 0)]))
 (aq (sIf (dOr (gA (dIs .str (ae 0))) (gA (ax (cal cp) [(ae 0)]))) (aK (dUn (yR true) (ae 2))) a6)
 (aK (j_ (dUn iw (ae 2)) (ah fEq (ax (cal (cO 8)) [(ae 1)]) (ae 0))))))
def aC:FN:=fnV 3 gW
def Dg:DS :=
 (aq (az 1 (ax (cal (b7 8)) [(ax (cal bB) [(ae 0),(dC (.int 1))])]))
 (aq (fg (cY (dC (.int 12))) (aS 2) (aq (az 3 (ax (cal aO) [(ae 0),(ah av (dC (.int 10)) (ae 2))]))
 (sIf (dOr (gA (ax (cal aC) [(ax (cal bC) [(ae 1),(ah cB (ae 3) (dC (.int 2)))])])) (gA (ax (cal aC) [(ax (cal dq) [(ae 3)])]))) (aK (dC (.bl false))) a6)))
 (aq (fg (fB (bq [(dC (.non)),(dC (.int 7)),(dC (.bl true)),(bq [(dC (.str "a"))]),(eP [(dC (.str "hand")),(dC (.int 0))])])) (aS 4) (sIf (gA (ax (cal aC) [(ae 4)])) (aK (dC (.bl false))) a6))
 (aq (az 5 (ah av (dC (.int 6)) (ah bp (ax (cal aO) [(ae 0),(dC (.int 9))]) (dC (.int 650)))))
 (aq (sIf (dUn (m9 true) (aF (ax (cal bc) [(ah av (ah av (ah ku (dC (.str "all (")) (ae 5)) (dC (.str "a"))) (ah ku (dC (.str ")")) (ae 5)))]) (dC (.int 1)))) (aK (dC (.bl false))) a6)
 (aK (ax (cal aC) [(ae 1)])))))))
def qU:DS:=(az 1 (ax (cal (b7 8)) [(ax (cal bB) [(ae 0),(dC (.int 1))])]))
def qV:DS:=(fg (cY (dC (.int 12))) (aS 2) (aq (az 3 (ax (cal aO) [(ae 0),(ah av (dC (.int 10)) (ae 2))]))
 (sIf (dOr (gA (ax (cal aC) [(ax (cal bC) [(ae 1),(ah cB (ae 3) (dC (.int 2)))])])) (gA (ax (cal aC) [(ax (cal dq) [(ae 3)])]))) (aK (dC (.bl false))) a6)))
def qW:DS:=(fg (fB (bq [(dC (.non)),(dC (.int 7)),(dC (.bl true)),(bq [(dC (.str "a"))]),(eP [(dC (.str "hand")),(dC (.int 0))])])) (aS 4) (sIf (gA (ax (cal aC) [(ae 4)])) (aK (dC (.bl false))) a6))
def qX:DS:=(az 5 (ah av (dC (.int 6)) (ah bp (ax (cal aO) [(ae 0),(dC (.int 9))]) (dC (.int 650)))))
def qY:DS:=(sIf (dUn (m9 true) (aF (ax (cal bc) [(ah av (ah av (ah ku (dC (.str "all (")) (ae 5)) (dC (.str "a"))) (ah ku (dC (.str ")")) (ae 5)))]) (dC (.int 1)))) (aK (dC (.bl false))) a6)
def qZ:DS:=(aK (ax (cal aC) [(ae 1)]))
def vy:DS:=qZ
def vA:DS:=aq qY vy
def vB:DS:=aq qX vA
def vC:DS:=aq qW vB
def vD:DS:=aq qV vC
def Dh:DS:=aq qU vD
theorem J0:Dg=Dh:=rfl
theorem zi(e:Slots)(μ:aa):Dh e μ=(qU e μ).seq vD:=rfl
theorem zj(e:Slots)(μ:aa):vD e μ=(qV e μ).seq vC:=rfl
theorem zk(e:Slots)(μ:aa):vC e μ=(qW e μ).seq vB:=rfl
theorem zl(e:Slots)(μ:aa):vB e μ=(qX e μ).seq vA:=rfl
theorem zm(e:Slots)(μ:aa):vA e μ=(qY e μ).seq vy:=rfl
theorem zo(e:Slots)(μ:aa):vy e μ=qZ e μ:=rfl
def lG:FN:=fnV 6 Dg
end Fw.k12
section
set_option maxHeartbeats 4000000
namespace Fw.k12
open PySem L2 Fw
seal Fw.CE Fw.CT Fw.CA Fw.CS Fw.CSs Fw.CI Fw.CB Fw.CF Fw.CW Fw.CO L2.ji
noncomputable def top (i : Nat) : Stmt := PySem.Challenge.pw_fewopen_k12_texts_that_are_no_rules.main.body.getD i (.Pass ⟨0, 0, 0, 0⟩)
abbrev lH:Stmt:=top 17
abbrev eL:Stmt:=top 18
abbrev lI:Stmt:=top 19
abbrev fO:Stmt:=top 20
abbrev iO:Stmt:=top 21
abbrev lJ:Stmt:=top 22
abbrev lK:Stmt:=top 23
abbrev jV:Stmt:=top 24
abbrev fu:Stmt:=top 26
abbrev gX:Stmt:=top 27
abbrev fP:Stmt:=top 28
abbrev dF:Stmt:=top 29
abbrev fQ:Stmt:=top 30
abbrev dW:Stmt:=top 31
abbrev gY:Stmt:=top 32
abbrev dG:Stmt:=top 33
abbrev gZ:Stmt:=top 34
abbrev f_:Stmt:=top 35
abbrev iP:Stmt:=top 36
abbrev g_:Stmt:=top 37
abbrev tW:Stmt:=top 38
structure Tx(K:PySem.W.Frag)(mg:Str->Option Value):Prop where
 q_:mg "ValueError"=none
 HN:mg "int"=none
 eX:mg "isinstance"=none
 dO:mg "len"=none
 L5:mg "max"=none
 L6:mg "min"=none
 kI:mg "range"=none
 Di:mg "str"=none
 xo:mg "tuple"=none
 xp:∃tk,mg "HANDS"=some (.str "abcdefghij" tk)
 GL:CY K mg "HEADS" ["all (","one (","2 of (","3 of (","4 of (","5 of (","6 of (","7 of (","8 of (","9 of ("]
 zp:∃tk,mg "LETTERS"=some (.str "abcdefghijklmnopqrstuvwxyz" tk)
 rf:∃tk,mg "MOST_HANDS"=some (.int 20 tk)
 rg:∃tk,mg "MOST_RULES"=some (.int 10 tk)
 rh:∃tk,mg "MOST_SOMES"=some (.int 5 tk)
structure Ec(K:PySem.W.Frag)(mg:Str->Option Value)(aB b8 bD a8 b9 bE bF bh bx:Addr):Prop where
 cJ:mg "NoRule"=some (.ref aB)
 nZ:PySem.W.nsIn K mainGlobals "NoRule"=some (some (.ref aB))
 cK:PySem.W.excIn K aB bmV "ValueError.__new__"=true
 tX:Gm K aB
 GN:mg "NoFit"=some (.ref b8)
 MJ:PySem.W.nsIn K mainGlobals "NoFit"=some (some (.ref b8))
 GO:qG K b8
 Dj:mg "NoName"=some (.ref bD)
 L7:PySem.W.nsIn K mainGlobals "NoName"=some (some (.ref bD))
 Dk:qG K bD
 vE:mg "NoNumber"=some (.ref a8)
 J1:PySem.W.nsIn K mainGlobals "NoNumber"=some (some (.ref a8))
 vF:qG K a8
 GP:mg "NoRow"=some (.ref b9)
 MK:PySem.W.nsIn K mainGlobals "NoRow"=some (some (.ref b9))
 GQ:qG K b9
 Dl:mg "NoText"=some (.ref bE)
 L8:PySem.W.nsIn K mainGlobals "NoText"=some (some (.ref bE))
 Dm:qG K bE
 Dn:mg "TooFew"=some (.ref bF)
 L9:PySem.W.nsIn K mainGlobals "TooFew"=some (some (.ref bF))
 Dp:qG K bF
 zq:mg "TooMany"=some (.ref bh)
 Kr:PySem.W.nsIn K mainGlobals "TooMany"=some (some (.ref bh))
 zr:qG K bh
 tY:mg "OpenError"=some (.ref bx)
 HP:PySem.W.nsIn K mainGlobals "OpenError"=some (some (.ref bx))
 s0:(jK K aB).contains (.ref bh)=false
 s1:(jK K aB).contains (.ref bF)=false
 s2:(jK K aB).contains (.ref bE)=false
 s3:(jK K aB).contains (.ref b9)=false
 s4:(jK K aB).contains (.ref a8)=false
 s5:(jK K aB).contains (.ref bD)=false
 s6:(jK K aB).contains (.ref b8)=false
 s7:(jK K aB).contains (.ref aB)=true
 s8:PySem.W.kitOne K (.ref aB) (.ref bx)=some true
 s9:PySem.W.kitOne K (.ref aB) (.type "ValueError")=some true
abbrev n0:List Str:=["inner"]
abbrev n1:List Str:=["rule","head","inside"]
abbrev n2:List Str:=["_law_j","_law_row","_law_state","_law_deep"]
abbrev n3:List Str:=["_law_row","_law_state","_law_deep","_law_one","_law_size","_law_k"]
abbrev n4:List Str:=["_law_one"]
abbrev n5:List Str:=["_law_rule_here","_law_inner"]
abbrev n6:List Str:=["_law_sign"]
abbrev n7:List Str:=["_law_text_here","_law_hands","_law_found"]
abbrev n8:List Str:=["_law_size"]
abbrev n9:List Str:=["_law_cell","_law_deep","_law_k","_law_many","_law_some","_law_groups"]
abbrev n10:List Str:=["rule"]
abbrev n11:List Str:=["k","many"]
abbrev n12:List Str:=["text","at","depth"]
abbrev n13:List Str:=["text","at","head","depth"]
abbrev n14:List Str:=["text"]
abbrev n15:List Str:=["_law_script","_law_k"]
abbrev n16:List Str:=["_law_script","_law_at","_law_base","_law_many"]
abbrev n17:List Str:=["_law_row","_law_state","_law_deep"]
abbrev n18:List Str:=["_law_script","_law_at"]
abbrev n19:List Str:=["_law_rule_here"]
abbrev n20:List Str:=["_law_word","_law_many"]
abbrev n21:List Str:=["_law_text_here"]
abbrev n22:List Str:=["_law_cell"]
abbrev n23:List Str:=["_law_text_here","_law_cell"]
abbrev n24:List Str:=["_law_script"]
abbrev n25:List Str:=["rule","hands","inner"]
abbrev n26:List Str:=["text","at","depth","head","letter"]
abbrev n27:List Str:=["text","at","head","depth","found","rules","k"]
abbrev n28:List Str:=["text","at","depth","found","rules"]
abbrev n29:List Str:=["text","found"]
abbrev n30:List Str:=["_law_script","_law_at","_law_base","_law_many","_law_number","_law_found","_law_k"]
abbrev n31:List Str:=["_law_script","_law_at","_law_row"]
abbrev n32:List Str:=["_law_text_here","_law_begin","_law_end","_law_inside","_law_start","_law_deep","_law_hands","_law_part"]
abbrev n33:List Str:=["_law_text_here","_law_cell","_law_at","_law_sign","_law_some"]
abbrev n34:List Str:=["_law_text_here","_law_clean","_law_found","e"]
abbrev n35:List Str:=["_law_text_here","_law_found","_law_clean"]
abbrev n36:List Str:=["_law_script","_law_text_here","_law_k","_law_cell","_law_thing","_law_deep"]
abbrev d0:FuncData:=PySem.W.fnOf "" "" (fD tW) [] (aw tW) .none .none .none .none none .none .none
structure Zc where
 P:Program
 w:World
 K:PySem.W.Frag
 mg:Str->Option Value
 base:Heap
 A:List Addr
 D:List FuncData
 aB:Addr
 b8:Addr
 bD:Addr
 a8:Addr
 b9:Addr
 bE:Addr
 bF:Addr
 bh:Addr
 bx:Addr
abbrev Zg(Z:Zc)(x:Str)(st:Stmt)(ps:List Str)(i:Nat):Prop:=Gf Z.K Z.mg x st ps (Z.A.getD i 0) (Z.D.getD i d0)
structure Mo(Z:Zc):Prop extends Tx Z.K Z.mg,Ec Z.K Z.mg Z.aB Z.b8 Z.bD Z.a8 Z.b9 Z.bE Z.bF Z.bh Z.bx where
 lL:Zg Z "is_hand" lH n10 0
 eM:Zg Z "hands_written" eL n10 1
 lM:Zg Z "head_of" lI n11 2
 iQ:Zg Z "show_rule" fO n10 3
 cu:Zg Z "rule_at" lJ n12 4
 jc:Zg Z "some_at" lK n13 5
 hJ:Zg Z "rules_at" jV n12 6
 fR:Zg Z "read_rule" iO n14 7
 bU:Zg Z "_law_cell_at" fu n15 8
 kJ:Zg Z "_law_drawn" gX n16 9
 iR:Zg Z "_law_rule" fP n17 10
 fS:Zg Z "_law_drawn_rule" dF n18 11
 iS:Zg Z "_law_text" fQ n19 12
 gw:Zg Z "_law_word_fits" dW n20 13
 kK:Zg Z "_law_taken" gY n21 14
 iT:Zg Z "_law_is_rule" dG n21 15
 n_:Zg Z "_law_odd" gZ n22 16
 jv:Zg Z "_law_spoilt" f_ n23 17
 iU:Zg Z "_law_read" iP n21 18
 dH:Zg Z "_law_right" g_ n21 19
 L_:Zg Z "law" tW n24 20
abbrev Ok(Z:Zc)(r i:Nat)(ps:List Str)(f:FN):Prop:=gb Z.P Z.w Z.K Z.mg Z.base CX0 r (Z.A.getD i 0) (Z.D.getD i d0) ps (spD Z.K f ps.length)
abbrev OkX(Z:Zc)(r i:Nat)(ps:List Str)(f:FN):Prop:=gb Z.P Z.w Z.K Z.mg Z.base (CX1 Z.P Z.w) r (Z.A.getD i 0) (Z.D.getD i d0) ps (spX Z.K Z.mg f ps.length)
section
variable{Z:Zc}
theorem vG:aY n10 n10 (aw lH):=fsc
theorem lU(M:Mo Z):Ok Z 1 0 n10 bN :=
 ey .V M.lL.F vG λcdv A outer s H E hr=>(ar (aL (tm hr (aG (af 0) ai) ak)))
theorem dX:aY n25 n10 (aw eL):=fsc
theorem fT(M:Mo Z) :
  ∀n,Ok Z (1+n) 1 n10 (cN n)
 | 0=>mq.mono (Nat.zero_le _)
 | n+1=>by
  have lN:=fT M n
  exact ey .V M.eM.F dX λcdv A outer s H E hr=>(aj (br (eI (cc (lU M) hr M.lL (ag (af 0) au))) (ar (aL (CF.ce (cx (ag (aG (af 0) ai) au))))) aR)
 (aj (aE 1 dX.nd (CF.cell (cx au)))
 (aj (iC PassesOwn.never rfl (lr (aG (af 0) ai)) (cM 2 dX.nd) (ar (vw (af 1) (cc lN hr M.eM (ag (af 2) au)))))
 (ar (aL (af 1))))))
theorem vH:aY n11 n11 (aw lI):=fsc
theorem lV(M:Mo Z):Ok Z 1 2 n11 b5 :=
 ey .V M.lM.F vH λcdv A outer s H E hr=>(aj (br (fH hr (af 0) (af 1)) (ar (aL ak)) aR)
 (aj (br (fH hr (af 0) ai) (ar (aL ak)) aR)
 (ar (aL (HL (CJ.cons (vq (af 0)) (CJ.cons ak CJ.nil)))))))
theorem hX:aY n1 n10 (aw fO):=fsc
theorem jw(M:Mo Z) :
  ∀n,Ok Z (1+n) 3 n10 (cO n)
 | 0=>mq.mono (Nat.zero_le _)
 | n+1=>by
  have rj:=jw M n
  exact ey .V M.iQ.F hX λcdv A outer s H E hr=>(aj (br (eI (cc (lU M) hr M.lL (ag (af 0) au))) (ar (aL (aG (qv M.zp.choose_spec) (aG (af 0) ai)))) aR)
 (aj (aE 1 hX.nd (cc (lV M) hr M.lM (ag (aG (af 0) ai) (ag (cy M.dO (aG (af 0) ai)) au))))
 (aj (aE 2 hX.nd (kr ak (CF.ce (mm (N':=n0) rfl (dA (aw fO) rfl n1 rfl (by decide +kernel)) rfl (eu rfl) (lr (aG (af 0) ai)) (λ_ _ _ _ _=>(cM 0 (show n0.Nodup by decide +kernel))) (λ_ _ _ _ _=>i5) (λ_ _ _ _ _=>(cc rj hr M.iQ (ag (af 0) au)))))))
 (ar (aL (HL (CJ.cons (vq (af 1)) (CJ.cons (vq (af 2)) (CJ.cons ak CJ.nil)))))))))
theorem jW:aY n26 n12 (aw lJ):=fsc
theorem hZ:aY n27 n13 (aw lK):=fsc
theorem fU:aY n28 n12 (aw jV):=fsc
theorem bY(M:Mo Z) :
  ∀n,OkX Z (1+n) 4 n12 (bO n)/\OkX Z (1+n) 5 n13 (b6 n)/\OkX Z (1+n) 6 n12 (bK n)
 | 0=>⟨nG.mono (Nat.zero_le _),nG.mono (Nat.zero_le _),nG.mono (Nat.zero_le _)⟩
 | n+1=>by
  obtain⟨oa,vI,tZ⟩:=bY M n
  exact⟨qF M.cu.F jW λcdv A outer s H E hr=>(aj (qM rfl rfl rfl λE hp=>(iC hp rfl (GG M.GL) (cM 3 jW.nd) (ar (br (eI (lA (af 0) (af 3) (af 1))) (ar (aL (gp vI hr M.jc.m M.jc.F.kp M.jc.b (ag (af 0) (ag (af 1) (ag (af 3) (ag (aA (af 2) ai) au))))))) aR))))
 (aj (aE 4 jW.nd (bR (af 0) (bo (af 1)) (bo (aA (af 1) ai))))
 (aj (br (CW.ct (lT (fH hr (af 4) ak) (e8 (xm (af 4) (qv M.xp.choose_spec))))) (ar (eA PySem.F.excBase_ValueError rfl M.cJ M.cK)) aR)
 (iI (ar (aL (fX (ag (fX (ag ak (ag (C0 (qv M.xp.choose_spec) (af 4)) au)) (hl:=Nat.le_of_ble_eq_true rfl)) (ag (aA (af 1) ai) au)) (hl:=Nat.le_of_ble_eq_true rfl)))))))),qF M.jc.F hZ λcdv A outer s H E hr=>(aj (br (Cp (af 3) (qu M.rh.choose_spec)) (ar (eA PySem.F.excBase_ValueError rfl M.cJ M.cK)) aR)
 (aj (aE 4 hZ.nd (gp tZ hr M.hJ.m M.hJ.F.kp M.hJ.b (ag (af 0) (ag (aA (af 1) (cy M.dO (af 2))) (ag (af 3) au)))))
 (aj (aE 5 hZ.nd (aG (af 4) ai))
 (aj (br (Cp (cy M.dO (af 5)) (qu M.rg.choose_spec)) (ar (eA PySem.F.excBase_ValueError rfl M.cJ M.cK)) aR)
 (aj (qM rfl rfl rfl λE hp=>(iC hp rfl (yF M.kI ai (aA (cy M.dO (af 5)) ai)) (cM 6 hZ.nd) (iI (ar (br (fH hr (cc (lV M) hr M.lM (ag (af 6) (ag (cy M.dO (af 5)) au))) (af 2)) (ar (aL (fX (ag (fX (ag ak (ag (af 6) (ag (af 5) au))) (hl:=Nat.le_of_ble_eq_true rfl)) (ag (aG (af 4) ai) au)) (hl:=Nat.le_of_ble_eq_true rfl)))) aR)))))
 (ar (eA PySem.F.excBase_ValueError rfl M.cJ M.cK))))))),qF M.hJ.F fU λcdv A outer s H E hr=>(aj (aE 3 fU.nd (gp oa hr M.cu.m M.cu.F.kp M.cu.b (ag (af 0) (ag (af 1) (ag (af 2) au)))))
 (aj (aE 4 fU.nd (CF.cell (cx (ag (aG (af 3) ai) au))))
 (aj (qM rfl rfl rfl λE hp=>(sP hp (eI (lA (af 0) ak (aG (af 3) ai))) (aj (aE 3 fU.nd (gp oa hr M.cu.m M.cu.F.kp M.cu.b (ag (af 0) (ag (aA (aG (af 3) ai) ai) (ag (af 2) au)))))
 (iI (ar (gq (af 4) (aG (af 3) ai)))))))
 (aj (br (iB (eI (lA (af 0) ak (aG (af 3) ai)))) (ar (eA PySem.F.excBase_ValueError rfl M.cJ M.cK)) aR)
 (iI (ar (aL (fX (ag (tq M.xo (af 4)) (ag (aA (aG (af 3) ai) ai) au)) (hl:=Nat.le_of_ble_eq_true rfl)))))))))⟩
theorem kL:aY n29 n14 (aw iO):=fsc
theorem oZ(M:Mo Z):OkX Z 26 7 n14 aZ :=
 qF M.fR.F kL λcdv A outer s H E hr=>(aj (br (iB (eI (pM M.eX M.Di (af 0)))) (ar (eA PySem.F.excBase_ValueError rfl M.cJ M.cK)) aR)
 (aj (aE 1 kL.nd (gp (bY M 24).1 (hr.mono (by decide)) M.cu.m M.cu.F.kp M.cu.b (ag (af 0) (ag ai (ag ai au)))))
 (aj (br (xc hr (aG (af 1) ai) (cy M.dO (af 0))) (ar (eA PySem.F.excBase_ValueError rfl M.cJ M.cK)) aR)
 (aj (br (Cp (cy M.dO (cc (fT M 8) hr M.eM (ag (aG (af 1) ai) au))) (qu M.rf.choose_spec)) (ar (eA PySem.F.excBase_ValueError rfl M.cJ M.cK)) aR)
 (iI (ar (aL (aG (af 1) ai))))))))
theorem l9:aY n15 n15 (aw fu):=fsc
theorem bV(M:Mo Z):Ok Z 1 8 n15 aO :=
 ey .V M.bU.F l9 λcdv A outer s H E hr=>(aj (br (w8 (af 1) (cy M.dO (af 0))) (ar (aL (aG (af 0) (af 1)))) aR)
 (aj (br (fH hr (cy M.dO (af 0)) ai) (ar (aL (aA (iE (iE (af 1) (af 1)) ai) (iE ai (af 1))))) aR)
 (ar (aL (aA (dB (aG (af 0) (bH (af 1) (cy M.dO (af 0)))) (aA ai (dB (af 1) (cy M.dO (af 0))))) (iE (iE (af 1) (af 1)) ai))))))
theorem cw:aY n30 n16 (aw gX):=fsc
theorem og(M:Mo Z):Ok Z 2 9 n16 jo :=
 ey .V M.kJ.F cw λcdv A outer s H E hr=>(aj (aE 4 cw.nd (cc (bV M) hr M.bU (ag (af 0) (ag (af 1) au))))
 (aj (aE 5 cw.nd (CF.cell (cx au)))
 (aj (iC PassesOwn.never rfl (i4 M.kI (af 3)) (cM 6 cw.nd) (ar (br (fH hr (bH (cc (bV M) hr M.bU (ag (af 0) (ag ai au))) ai) ai) (aj (gq (af 5) (bH (af 4) (af 2)))
 (ar (aE 4 cw.nd (dB (af 4) (af 2))))) (aj (aE 4 cw.nd (bH (iE (aA (bH (af 4) ai) ai) ai) ai))
 (ar (gq (af 5) (bH (dB (bH (aA (iE (af 4) ai) (iE (af 6) ai)) ai) ai) (af 2))))))))
 (ar (aL (af 5))))))
theorem eY:aY n3 n17 (aw fP):=fsc
theorem jx(M:Mo Z) :
  ∀n,Ok Z (0+n) 10 n17 (eT n)
 | 0=>mq.mono (Nat.zero_le _)
 | n+1=>by
  have rk:=jx M n
  exact ey .V M.iR.F eY λcdv A outer s H E hr=>(aj (aE 3 eY.nd (aG (af 0) (bH (aG (af 1) ai) (cy M.dO (af 0)))))
 (aj (ni 1 ai (aA (aG (af 1) ai) ai))
 (aj (br (CW.ct (lT (fH hr (af 2) ai) (lT (w8 (aG (af 1) ai) ai) (e8 (fH hr (bH (af 3) ai) ai))))) (ar (aL (fX (ag ak (ag (bH (dB (af 3) ai) ai) au)) (hl:=Nat.le_of_ble_eq_true rfl)))) aR)
 (aj (aE 4 eY.nd (aA ai (JN M.L6 (aG (af 1) ai) (bH (dB (af 3) ai) ai))))
 (aj (ni 1 ai (aA (nc (aG (af 1) ai) (af 4)) ai))
 (aj (aE 5 eY.nd (aA ai (bH (dB (af 3) ai) (af 4))))
 (ar (aL (fX (ag ak (ag (af 5) (ag (tq M.xo (CF.ce (mm (N':=n2) rfl (dA (aw fP) rfl n3 rfl (by decide +kernel)) rfl (eu rfl) (i4 M.kI (af 4)) (λ_ _ _ _ _=>(cM 0 (show n2.Nodup by decide +kernel))) (λ_ _ _ _ _=>i5) (λ_ _ _ _ _=>(cc rk hr M.iR (ag (af 1) (ag (af 2) (ag (nc (af 3) ai) au)))))))) au))) (hl:=Nat.le_of_ble_eq_true rfl))))))))))
theorem fv:aY n31 n18 (aw dF):=fsc
theorem jk(M:Mo Z):Ok Z 9 11 n18 bB :=
 ey .V M.fS.F fv λcdv A outer s H E hr=>(aj (aE 2 fv.nd (cc (og M) hr M.kJ (ag (af 0) (ag (af 1) (ag ai (ag ai au))))))
 (ar (aL (cc (jx M 8) hr M.iR (ag (af 2) (ag (CF.cell (cx (ag ai (ag ai au)))) (ag (aG (CF.ce (cx (ag ai (ag ai (ag ai (ag ai (ag ai (ag ai au)))))))) (bH (cc (bV M) hr M.bU (ag (af 0) (ag (aA (af 1) ai) au))) ai)) au)))))))
theorem kM:aY n5 n19 (aw fQ):=fsc
theorem jy(M:Mo Z) :
  ∀n,Ok Z (0+n) 12 n19 (b7 n)
 | 0=>mq.mono (Nat.zero_le _)
 | n+1=>by
  have rl:=jy M n
  exact ey .V M.iS.F kM λcdv A outer s H E hr=>(aj (br (fH hr (aG (af 0) ai) ak) (ar (aL (aG ak (aG (af 0) ai)))) aR)
 (aj (aE 1 kM.nd (kr ak (CF.ce (mm (N':=n4) rfl (dA (aw fQ) rfl n5 rfl (by decide +kernel)) rfl (eu rfl) (lr (aG (af 0) ai)) (λ_ _ _ _ _=>(cM 0 (show n4.Nodup by decide +kernel))) (λ_ _ _ _ _=>i5) (λ_ _ _ _ _=>(cc rl hr M.iS (ag (af 0) au)))))))
 (aj (br (fH hr (aG (af 0) ai) (cy M.dO (aG (af 0) ai))) (ar (aL (aA (aA ak (af 1)) ak))) aR)
 (aj (br (fH hr (aG (af 0) ai) ai) (ar (aL (aA (aA ak (af 1)) ak))) aR)
 (ar (aL (aA (aA (aA (Gy M.Di (aG (af 0) ai)) ak) (af 1)) ak)))))))
theorem kN:aY n20 n20 (aw dW):=fsc
theorem jX(M:Mo Z):Ok Z 1 13 n20 bL :=
 ey .V M.gw.F kN λcdv A outer s H E hr=>(aj (br (fH hr (af 0) ak) (ar (aL (iH ai (af 1) ai))) aR)
 (aj (br (fH hr (af 0) ak) (ar (aL (iH ai (af 1) ai))) aR)
 (ar (aL (jI (tm hr (cy M.dO (af 0)) ai) (jI (tm hr (bR (af 0) (bo ai) cZ) ak) (jI (vp (aG (af 0) ai) ak) (qx (nF (GK M.HN (aG (af 0) ai)) (af 1) ai)))))))))
theorem a7:aY n32 n21 (aw gY):=fsc
theorem oh(M:Mo Z):Ok Z 2 14 n21 aX :=
 ey .V M.kK.F a7 λcdv A outer s H E hr=>(aj (aE 1 a7.nd (C9 (af 0) ak))
 (aj (aE 2 a7.nd (C_ (af 0) ak (af 1)))
 (aj (br (CW.ct (lT (w8 (af 1) ai) (lT (w8 (af 2) ai) (e8 (xc hr (aG (af 0) (nc (af 1) ai)) ak))))) (ar (aL gC)) aR)
 (aj (aE 3 a7.nd (De (bR (af 0) (bo (aA (af 1) ai)) (bo (af 2))) ak))
 (aj (aE 4 a7.nd (aA (pS (af 0) ak ai (af 1)) ai))
 (aj (br (vt ak (bR (af 0) (bo (af 4)) (bo (af 1)))) (ar (aE 4 a7.nd (aA (pS (af 0) ak ai (af 1)) ai))) aR)
 (aj (br (iB (eI (cc (jX M) hr M.gw (ag (bR (af 0) (bo (af 4)) (bo (nc (af 1) ai))) (ag (cy M.dO (af 3)) au))))) (ar (aL gC)) aR)
 (aj (aE 5 a7.nd ai)
 (aj (aE 6 a7.nd ai)
 (aj (iC PassesOwn.never rfl (lr (af 3)) (cM 7 a7.nd) (aj (br (CW.ct (lT (xc hr (cy M.dO (af 7)) ai) (e8 (xm (af 7) ak)))) (ar (aL gC)) aR)
 (aj (aE 5 a7.nd (JO M.L5 (af 5) (aA (GJ ak (af 7)) ai)))
 (ar (aE 6 a7.nd (aA (af 6) (Gx M.HN (vp (af 7) ak))))))))
 (aj (br (fH hr (af 5) ai) (ar (aL gC)) aR)
 (ar (aL (fX (ag (aA (aA (bR (af 0) cZ (bo (af 4))) (aG ak (af 5))) (bR (af 0) (bo (aA (af 2) ai)) cZ)) (ag (af 6) au))))))))))))))))
theorem cq:aY n7 n21 (aw dG):=fsc
theorem lO(M:Mo Z):Ok Z 3 15 n21 cp :=
 ey .V M.iT.F cq λcdv A outer s H E hr=>(aj (br (xc hr (CF.ce (mm (N':=n6) rfl (dA (aw dG) rfl n7 rfl (by decide +kernel)) rfl (eu rfl) (JY (af 0)) (λ_ _ _ _ _=>(cM 0 (show n6.Nodup by decide +kernel))) (λ_ _ _ _ _=>(yH (vt (af 0) ak))) (λ_ _ _ _ _=>(af 0)))) (CF.ce (cx au))) (ar (aL lS)) aR)
 (aj (aE 1 cq.nd ai)
 (aj (sP PassesOwn.never (vt ak (af 0)) (aj (aE 2 cq.nd (cc (oh M) hr M.kK (ag (af 0) au)))
 (aj (br (JM (af 2)) (ar (aL lS)) aR)
 (aj (aE 1 cq.nd (aA (af 1) (aG (af 2) ai)))
 (ar (aE 0 cq.nd (aG (af 2) ai)))))))
 (ar (aL (jI (tm hr (cy M.dO (af 0)) ai) (jI (vp (af 0) ak) (qx (LW (af 1) ai)))))))))
theorem bj:aY n9 n22 (aw gZ):=fsc
theorem rm(M:Mo Z):Ok Z 1 16 n22 dq :=
 ey .V M.n_.F bj λcdv A outer s H E hr=>(aj (aE 1 bj.nd ak)
 (aj (iC PassesOwn.never rfl (i4 M.kI (aA ai (bH (dB (af 0) ai) ai))) (cM 2 bj.nd) (ar (aE 1 bj.nd (aA (aA (aG (CF.ce (cx (ag ak (ag ak (ag ak au))))) (bH (dB (af 0) ai) ai)) (af 1)) ak))))
 (aj (aE 3 bj.nd (aA ai (bH (dB (af 0) ai) ai)))
 (aj (aE 4 bj.nd (CF.cell (cx (ag ak (ag ak (ag ak (ag ak (ag ak (ag ak (ag ak (ag ak (ag ak (ag ak (ag ak (ag ak au)))))))))))))))
 (aj (aE 4 bj.nd (CF.cell (mx (af 4) (CF.ce (cx (ag ak (ag ak (ag ak (ag ak (ag ak (ag ak (ag ak au))))))))))))
 (aj (aE 4 bj.nd (CF.cell (mx (af 4) (CF.ce (cx (ag ak (ag ak (ag ak (ag ak (ag ak (ag ak (ag ak au))))))))))))
 (aj (aE 4 bj.nd (CF.cell (mx (af 4) (CF.ce (cx (ag ak (ag ak (ag ak (ag ak (ag ak au))))))))))
 (aj (aE 4 bj.nd (CF.cell (mx (af 4) (CF.ce (cx (ag ak (ag ak (ag ak (ag ak (ag ak (ag ak (ag ak (ag (af 1) au)))))))))))))
 (aj (gq (af 4) (aA (aA ak (kr ak (CF.ce (Cz (ag ak au) (aA ai (bH (dB (af 0) ai) ai)))))) ak))
 (aj (vb (sV 5 (N':=n8) rfl (dA (aw gZ) rfl n9 rfl (by decide +kernel)) rfl (eu rfl) (lr (CF.ce (cx (ag ai (ag ai (ag (nc (af 3) ai) au)))))) (λ_ _ _ _ _=>(cM 0 (show n8.Nodup by decide +kernel))) (λ_ _ _ _ _=>i5) (λ_ _ _ _ _=>(aA (aA ak (kr ak (CF.ce (Cz (ag ak au) (af 0))))) ak)) bj.nd) λ_ _ _ _ h=>pI h)
 (aj (gq (af 4) (aA (aA ak (kr ak (af 5))) ak))
 (ar (aL (aG (af 4) (bH (af 0) ai)))))))))))))))
theorem cL:aY n33 n23 (aw f_):=fsc
theorem l_(M:Mo Z):Ok Z 1 17 n23 bC :=
 ey .V M.jv.F cL λcdv A outer s H E hr=>(aj (aE 2 cL.nd (bH (dB (af 1) ai) (cy M.dO (af 0))))
 (aj (aE 3 cL.nd (aG ak (bH (dB (af 1) ai) ai)))
 (aj (aE 4 cL.nd (CF.ce (cx (ag (aA (bR (af 0) cZ (bo (af 2))) (bR (af 0) (bo (aA (af 2) ai)) cZ)) (ag (aA (aA (bR (af 0) cZ (bo (af 2))) (af 3)) (bR (af 0) (bo (af 2)) cZ)) (ag (aA (aA (bR (af 0) cZ (bo (af 2))) (af 3)) (bR (af 0) (bo (aA (af 2) ai)) cZ)) au))))))
 (aj (aE 4 cL.nd (aA (af 4) (CF.ce (cx (ag (aA (aA (bR (af 0) cZ (bo (af 2))) (aG (af 0) (af 2))) (bR (af 0) (bo (af 2)) cZ)) (ag (bR (af 0) cZ (bo (aA (af 2) ai))) au))))))
 (ar (aL (aG (af 4) (bH (af 1) ai))))))))
theorem cQ:aY n34 n21 (aw iP):=fsc
theorem jz(M:Mo Z):Ok Z 27 18 n21 bc :=
 ey .V M.iU.F cQ λcdv A outer s H E hr=>(aj (aE 1 cQ.nd gC)
 (aj (aE 2 cQ.nd gC)
 (aj (Jy rfl rfl (λE pn=>(ar (aE 2 cQ.nd (gp (oZ M) (hr.mono (by decide)) M.fR.m M.fR.F.kp M.fR.b (ag (af 0) au))))) (JS (sZ M.cJ (qL M.cK) [("NoFit",_,Z.b8),("NoName",_,Z.bD),("NoNumber",_,Z.a8),("NoRow",_,Z.b9),("NoText",_,Z.bE),("TooFew",_,Z.bF),("TooMany",_,Z.bh)] (Nat.le_of_ble_eq_true rfl) (gG ⟨⟨rfl,M.GN,by show(("NoFit":Str)=="__debug__")=false;decide⟩,M.GO,M.s6⟩ (gG ⟨⟨rfl,M.Dj,by show(("NoName":Str)=="__debug__")=false;decide⟩,M.Dk,M.s5⟩ (gG ⟨⟨rfl,M.vE,by show(("NoNumber":Str)=="__debug__")=false;decide⟩,M.vF,M.s4⟩ (gG ⟨⟨rfl,M.GP,by show(("NoRow":Str)=="__debug__")=false;decide⟩,M.GQ,M.s3⟩ (gG ⟨⟨rfl,M.Dl,by show(("NoText":Str)=="__debug__")=false;decide⟩,M.Dm,M.s2⟩ (gG ⟨⟨rfl,M.Dn,by show(("TooFew":Str)=="__debug__")=false;decide⟩,M.Dp,M.s1⟩ (gG ⟨⟨rfl,M.zq,by show(("TooMany":Str)=="__debug__")=false;decide⟩,M.zr,M.s0⟩ JR))))))) (LR (i:=3) rfl rfl rfl cQ.nd rfl rfl M.cJ M.nZ (qL M.cK) M.cJ (qL M.cK) M.s7 λev=>(ar (aE 1 cQ.nd (jI (JB M.eX M.tY (HI ⟨_,⟨M.nZ,M.tX⟩,M.s8⟩) (af 3)) (qx (Gn (Tn:="ValueError") M.eX M.q_ (by decide +kernel) (HI ⟨_,⟨M.nZ,M.tX⟩,M.s9⟩) (af 3))))))))))
 (ar (aL (fX (ag (af 2) (ag (af 1) au))))))))
theorem jA:aY n35 n21 (aw g_):=fsc
theorem dI(M:Mo Z):Ok Z 28 19 n21 aC :=
 ey .V M.dH.F jA λcdv A outer s H E hr=>(aj (JP (FX 1 2 jA.nd rfl) (cc (jz M) hr M.iU (ag (af 0) au)))
 (aj (br (CW.ct (lT (iB (eI (pM M.eX M.Di (af 0)))) (e8 (iB (eI (cc (lO M) hr M.iT (ag (af 0) au))))))) (ar (aL (JU (af 2)))) aR)
 (ar (aL (jI (JL (af 2)) (qx (tm hr (cc (jw M 8) hr M.iQ (ag (af 1) au)) (af 0))))))))
theorem lP:aY n36 n24 (aw tW):=fsc
theorem GR(M:Mo Z):Ok Z 29 20 n24 lG :=
 ey .V M.L_.F lP λcdv A outer s H E hr=>(aj (aE 1 lP.nd (cc (jy M 8) hr M.iS (ag (cc (jk M) hr M.fS (ag (af 0) (ag ai au))) au)))
 (aj (iC PassesOwn.never rfl (i4 M.kI ai) (cM 2 lP.nd) (aj (aE 3 lP.nd (cc (bV M) hr M.bU (ag (af 0) (ag (aA ai (af 2)) au))))
 (ar (br (CW.ct (lT (iB (eI (cc (dI M) hr M.dH (ag (cc (l_ M) hr M.jv (ag (af 1) (ag (dB (af 3) ai) au))) au)))) (e8 (iB (eI (cc (dI M) hr M.dH (ag (cc (rm M) hr M.n_ (ag (af 3) au)) au))))))) (ar (aL lS)) aR))))
 (aj (iC PassesOwn.never rfl (lr (CF.ce (cx (ag gC (ag ai (ag lS (ag (CF.ce (cx (ag ak au))) (ag (fX (ag ak (ag ai au))) au)))))))) (cM 4 lP.nd) (ar (br (iB (eI (cc (dI M) hr M.dH (ag (af 4) au)))) (ar (aL lS)) aR)))
 (aj (aE 5 lP.nd (aA ai (bH (cc (bV M) hr M.bU (ag (af 0) (ag ai au))) ai)))
 (aj (br (yZ (aG (cc (jz M) hr M.iU (ag (aA (aA (xn ak (af 5)) ak) (xn ak (af 5))) au)) ai)) (ar (aL lS)) aR)
 (ar (aL (cc (dI M) hr M.dH (ag (af 1) au)))))))))
end
theorem all_mk{l:PySem.W.OpenLaw}{w:World}{K:PySem.W.Frag}{h:Heap}{mg:Str->Option Value}{fa:Addr}(X:K.In h)(G:h.Ns mainGlobals mg)(hfa:mg "law"=some (.ref fa))
  {f0 f1 f2 f3 f4 f5 f6 f7 f8 f9 f10 f11 f12 f13 f14 f15 f16 f17 f18 f19 f20:Addr}{d0 d1 d2 d3 d4 d5 d6 d7 d8 d9 d10 d11 d12 d13 d14 d15 d16 d17 d18 d19 d20:FuncData}
  (A0:Fa K "is_hand" lH f0 d0)
  (A1:Fa K "hands_written" eL f1 d1)
  (A2:Fa K "head_of" lI f2 d2)
  (A3:Fa K "show_rule" fO f3 d3)
  (A4:Fa K "rule_at" lJ f4 d4)
  (A5:Fa K "some_at" lK f5 d5)
  (A6:Fa K "rules_at" jV f6 d6)
  (A7:Fa K "read_rule" iO f7 d7)
  (A8:Fa K "_law_cell_at" fu f8 d8)
  (A9:Fa K "_law_drawn" gX f9 d9)
  (A10:Fa K "_law_rule" fP f10 d10)
  (A11:Fa K "_law_drawn_rule" dF f11 d11)
  (A12:Fa K "_law_text" fQ f12 d12)
  (A13:Fa K "_law_word_fits" dW f13 d13)
  (A14:Fa K "_law_taken" gY f14 d14)
  (A15:Fa K "_law_is_rule" dG f15 d15)
  (A16:Fa K "_law_odd" gZ f16 d16)
  (A17:Fa K "_law_spoilt" f_ f17 d17)
  (A18:Fa K "_law_read" iP f18 d18)
  (A19:Fa K "_law_right" g_ f19 d19)
  (A20:Fa K "law" tW f20 d20)
  (z0:PySem.W.nsIn K mainGlobals "ValueError"=some none)
  (z1:PySem.W.nsIn K mainGlobals "int"=some none)
  (z2:PySem.W.nsIn K mainGlobals "isinstance"=some none)
  (z3:PySem.W.nsIn K mainGlobals "len"=some none)
  (z4:PySem.W.nsIn K mainGlobals "max"=some none)
  (z5:PySem.W.nsIn K mainGlobals "min"=some none)
  (z6:PySem.W.nsIn K mainGlobals "range"=some none)
  (z7:PySem.W.nsIn K mainGlobals "str"=some none)
  (z8:PySem.W.nsIn K mainGlobals "tuple"=some none)
  {tk0:Nat} (y0:PySem.W.nsIn K mainGlobals "HANDS"=some (some (.str "abcdefghij" tk0)))
  {ta1:Addr}{td1:Option Addr}{tn1:Nat}{ts1:Array (Option Value)}{Ma Mb Mc Me Mf Mg Mh Mi Mj Mk:Nat} (y1:PySem.W.nsIn K mainGlobals "HEADS"=some (some (.ref ta1))) (yy1:K.lookup ta1=some ⟨.type "tuple",td1,.seq #[.str "all (" Ma,.str "one (" Mb,.str "2 of (" Mc,.str "3 of (" Me,.str "4 of (" Mf,.str "5 of (" Mg,.str "6 of (" Mh,.str "7 of (" Mi,.str "8 of (" Mj,.str "9 of (" Mk] tn1,ts1⟩)
  {tk2:Nat} (y2:PySem.W.nsIn K mainGlobals "LETTERS"=some (some (.str "abcdefghijklmnopqrstuvwxyz" tk2)))
  {tk3:Nat} (y3:PySem.W.nsIn K mainGlobals "MOST_HANDS"=some (some (.int 20 tk3)))
  {tk4:Nat} (y4:PySem.W.nsIn K mainGlobals "MOST_RULES"=some (some (.int 10 tk4)))
  {tk5:Nat} (y5:PySem.W.nsIn K mainGlobals "MOST_SOMES"=some (some (.int 5 tk5)))
  {aB b8 bD a8 b9 bE bF bh bx:Addr}
  {GS:Addr}{Dq Dr:Str}{Dt Du zt:List Value}{Dv Dw:Bool}{Dx:List Str}{zu:Option Bool}{Dy:Option Addr}{Dz DA DB DC DD:Option Value}{DE:String}
  {DF:Addr}{zv zw:Str}{zx zy vJ:List Value}{zA zB:Bool}{zC:List Str}{vK:Option Bool}{zD:Option Addr}{zE zF zG zH zI:Option Value}{zJ:String}
  {vL:Addr}{t4 t5:Str}{t6 t7 rq:List Value}{t8 t9:Bool}{t_:List Str}{rA:Option Bool}{ub:Option Addr}{uc ud ue uf ug:Option Value}{uh:String}
  {GU:Addr}{DG DH:Str}{DJ DK zK:List Value}{DL DM:Bool}{DN:List Str}{zL:Option Bool}{DO:Option Addr}{DP DQ DR DT DU:Option Value}{DV:String}
  {DW:Addr}{zM zN:Str}{zO zP vM:List Value}{zQ zR:Bool}{zS:List Str}{vN:Option Bool}{zT:Option Addr}{zU zV zW zX zY:Option Value}{zZ:String}
  {DX:Addr}{z9 z_:Str}{Aa Ab vO:List Value}{Ac Ad:Bool}{Ae:List Str}{vP:Option Bool}{Af:Option Addr}{Ag Ah Ai Aj Ak:Option Value}{Al:String}
  {Am:Addr}{vQ vR:Str}{vS vT ui:List Value}{vU vV:Bool}{vW:List Str}{uj:Option Bool}{vX:Option Addr}{vY vZ v7 v8 v9:Option Value}{v_:String}
  (x0:PySem.W.specialIn K (.builtin "object.__class__") "__get__"=some (some (.builtin "getset_descriptor.__get__")))
  (x1:PySem.W.takesIn K (.builtin "object.__class__")=some true)
  (x2:PySem.W.nsIn K mainGlobals "NoRule"=some (some (.ref aB)))
  (x3:PySem.W.excIn K aB [.type "ValueError",.type "Exception",.type "BaseException",.type "object"] "ValueError.__new__"=true)
  (x4:PySem.W.findIn K (.ref aB) "__getattribute__"=some (some (.builtin "BaseException.__getattribute__")))
  (x5:PySem.W.findIn K (.ref aB) "__getattr__"=some none)
  (x6:PySem.W.findIn K (.ref aB) "__class__"=some (some (.builtin "object.__class__")))
  (x7:PySem.W.mroIn K aB (.type "object")=some true)
  (x8:PySem.W.mroIn K aB (.type "BaseException")=some true)
  (x9:PySem.W.nsIn K mainGlobals "NoFit"=some (some (.ref b8)))
  (x10:K.lookup b8=some ⟨.type "type",Dy,.cls ⟨Dq,Dt,.ref b8::Du,GS,Dr,Dv,Dx,zt,Dw,zu,false⟩,#[Dz,DA,DB,DC,some (.builtin DE),DD]⟩)
  (x11:PySem.W.mroIn K b8 (.type "BaseException")=some true)
  (x12:PySem.W.nsIn K mainGlobals "NoName"=some (some (.ref bD)))
  (x13:K.lookup bD=some ⟨.type "type",zD,.cls ⟨zv,zx,.ref bD::zy,DF,zw,zA,zC,vJ,zB,vK,false⟩,#[zE,zF,zG,zH,some (.builtin zJ),zI]⟩)
  (x14:PySem.W.mroIn K bD (.type "BaseException")=some true)
  (x15:PySem.W.nsIn K mainGlobals "NoNumber"=some (some (.ref a8)))
  (x16:K.lookup a8=some ⟨.type "type",ub,.cls ⟨t4,t6,.ref a8::t7,vL,t5,t8,t_,rq,t9,rA,false⟩,#[uc,ud,ue,uf,some (.builtin uh),ug]⟩)
  (x17:PySem.W.mroIn K a8 (.type "BaseException")=some true)
  (x18:PySem.W.nsIn K mainGlobals "NoRow"=some (some (.ref b9)))
  (x19:K.lookup b9=some ⟨.type "type",DO,.cls ⟨DG,DJ,.ref b9::DK,GU,DH,DL,DN,zK,DM,zL,false⟩,#[DP,DQ,DR,DT,some (.builtin DV),DU]⟩)
  (x20:PySem.W.mroIn K b9 (.type "BaseException")=some true)
  (x21:PySem.W.nsIn K mainGlobals "NoText"=some (some (.ref bE)))
  (x22:K.lookup bE=some ⟨.type "type",zT,.cls ⟨zM,zO,.ref bE::zP,DW,zN,zQ,zS,vM,zR,vN,false⟩,#[zU,zV,zW,zX,some (.builtin zZ),zY]⟩)
  (x23:PySem.W.mroIn K bE (.type "BaseException")=some true)
  (x24:PySem.W.nsIn K mainGlobals "TooFew"=some (some (.ref bF)))
  (x25:K.lookup bF=some ⟨.type "type",Af,.cls ⟨z9,Aa,.ref bF::Ab,DX,z_,Ac,Ae,vO,Ad,vP,false⟩,#[Ag,Ah,Ai,Aj,some (.builtin Al),Ak]⟩)
  (x26:PySem.W.mroIn K bF (.type "BaseException")=some true)
  (x27:PySem.W.nsIn K mainGlobals "TooMany"=some (some (.ref bh)))
  (x28:K.lookup bh=some ⟨.type "type",vX,.cls ⟨vQ,vS,.ref bh::vT,Am,vR,vU,vW,ui,vV,uj,false⟩,#[vY,vZ,v7,v8,some (.builtin v_),v9]⟩)
  (x29:PySem.W.mroIn K bh (.type "BaseException")=some true)
  (x30:PySem.W.nsIn K mainGlobals "OpenError"=some (some (.ref bx)))
  (x31:PySem.W.mroIn K aB (.ref bh)=some false)
  (x32:PySem.W.mroIn K aB (.ref bF)=some false)
  (x33:PySem.W.mroIn K aB (.ref bE)=some false)
  (x34:PySem.W.mroIn K aB (.ref b9)=some false)
  (x35:PySem.W.mroIn K aB (.ref a8)=some false)
  (x36:PySem.W.mroIn K aB (.ref bD)=some false)
  (x37:PySem.W.mroIn K aB (.ref b8)=some false)
  (x38:PySem.W.mroIn K aB (.ref aB)=some true)
  (x39:PySem.W.kitOne K (.ref aB) (.ref bx)=some true)
  (x40:PySem.W.kitOne K (.ref aB) (.type "ValueError")=some true)
  : ∃fd:FuncData,(∀(s:Shared) (v:Value),BindsTo s fd ⟨[v],[]⟩ [("_law_script",v)])/\∀base:Heap,K.In base->base.Ns mainGlobals mg->gb l.prog w K mg base CX0 29 fa fd ["_law_script"] (spD K lG 1):=by
 have e:=hfa.symm.trans (PySem.W.mg_of X G A20.a)
 cases e
 have T:Tx K mg:=⟨PySem.W.mg_none_of X G z0,PySem.W.mg_none_of X G z1,PySem.W.mg_none_of X G z2,PySem.W.mg_none_of X G z3,PySem.W.mg_none_of X G z4,PySem.W.mg_none_of X G z5,PySem.W.mg_none_of X G z6,PySem.W.mg_none_of X G z7,PySem.W.mg_none_of X G z8,⟨_,PySem.W.mg_of X G y0⟩,⟨_,_,_,_,PySem.W.mg_of X G y1,yy1,rfl,rfl,Nat.le_of_ble_eq_true rfl,.cons ⟨_,rfl⟩ (.cons ⟨_,rfl⟩ (.cons ⟨_,rfl⟩ (.cons ⟨_,rfl⟩ (.cons ⟨_,rfl⟩ (.cons ⟨_,rfl⟩ (.cons ⟨_,rfl⟩ (.cons ⟨_,rfl⟩ (.cons ⟨_,rfl⟩ (.cons ⟨_,rfl⟩ (.nil))))))))))⟩,⟨_,PySem.W.mg_of X G y2⟩,⟨_,PySem.W.mg_of X G y3⟩,⟨_,PySem.W.mg_of X G y4⟩,⟨_,PySem.W.mg_of X G y5⟩⟩
 have Y:Ec K mg aB b8 bD a8 b9 bE bF bh bx:=⟨PySem.W.mg_of X G x2,x2,x3,⟨⟨x4,x5,x6,x0,x1,x7,x8⟩,JQ x7⟩,PySem.W.mg_of X G x9,x9,gF x10 x11,PySem.W.mg_of X G x12,x12,gF x13 x14,PySem.W.mg_of X G x15,x15,gF x16 x17,PySem.W.mg_of X G x18,x18,gF x19 x20,PySem.W.mg_of X G x21,x21,gF x22 x23,PySem.W.mg_of X G x24,x24,gF x25 x26,PySem.W.mg_of X G x27,x27,gF x28 x29,PySem.W.mg_of X G x30,x30,fI x31,fI x32,fI x33,fI x34,fI x35,fI x36,fI x37,fI x38,x39,x40⟩
 obtain⟨_,_,kV,dc,pm,an,cd,ct,_,e,_⟩:=id A20.F.ex
 refine⟨d20,λs v=>e ▸ .of_eq rfl,λbase _ _=>GR (Z:=⟨l.prog,w,K,mg,base,[f0,f1,f2,f3,f4,f5,f6,f7,f8,f9,f10,f11,f12,f13,f14,f15,f16,f17,f18,f19,fa],[d0,d1,d2,d3,d4,d5,d6,d7,d8,d9,d10,d11,d12,d13,d14,d15,d16,d17,d18,d19,d20],aB,b8,bD,a8,b9,bE,bF,bh,bx⟩) ⟨T,Y,gf1 X G A0,gf1 X G A1,gf2 X G A2,gf1 X G A3,gf3 X G A4,gf4 X G A5,gf3 X G A6,gf1 X G A7,gf2 X G A8,gf4 X G A9,gf3 X G A10,gf2 X G A11,gf1 X G A12,gf2 X G A13,gf1 X G A14,gf1 X G A15,gf1 X G A16,gf2 X G A17,gf1 X G A18,gf1 X G A19,gf1 X G A20⟩⟩
theorem walk{l:PySem.W.OpenLaw}{q:Program}{loose:List Str}{XP:(Str->Option Value)->Heap->Prop}{YP:World->Heap->Prop}{d:DefRec}{K:Params->PySem.W.Frag}(hn:l.most=some 63)(hdf:d.params.defaults=[])
  (JD:∀ns:List Int,ns.length≤63->∃μ',lG [.val (.lst (ns.map T.int))] []=.ok (.val (.bl true)) μ')
  (hY:∀(w:World) (h:Heap),YP w h->(K w.params).In h)
  (F:∀(w:World) (mg:Str->Option Value) (fa:Addr) (h:Heap),(K w.params).In h->h.Ns mainGlobals mg->mg d.name=some (.ref fa) ->
   ∃fd:FuncData,(∀(s:Shared) (u:Value),BindsTo s fd ⟨[u],[]⟩ [("_law_script",u)])/\∀base:Heap,(K w.params).In base->base.Ns mainGlobals mg->gb l.prog w (K w.params) mg base CX0 29 fa fd ["_law_script"] (spD (K w.params) lG 1)) :
  PySem.W.WalkO q loose XP YP l.row.toRowW d [] (λf vs=>PySem.call f vs) :=
 L2.Ff (n:=63) (k:=29) (x:="_law_script") (CX:=λ_=>CX0) (sp:=λw=>spD (K w.params) lG 1) hn (by decide) hdf ⟨rfl,by decide,by decide⟩ hY F (λw H a ns hl hO hS=>JC JD hl hS hO) λ_ _ _ _ _ z=>z
end Fw.k12
end
namespace Fw
open PySem Fw Fw.H
theorem Ks(a b:DS)(e:Slots)(μ:aa):aq a b e μ=(a e μ).seq b:=rfl
theorem Kt(i:Nat)(d:D)(e:Slots)(μ:aa):az i d e μ=(d e μ).toS e λx μ1=>.nx (e.set i (some x)) μ1:=rfl
theorem Ku(d:D)(e:Slots)(μ:aa):aK d e μ=(d e μ).toS e λx μ1=>.rt x μ1:=rfl
theorem Ml(c:D)(a b:DS)(e:Slots)(μ:aa):sIf c a b e μ=(c e μ).toS e λx μ1=>(R.lift (asB x) μ1).toS e λk μ1=>if k=true then a e μ1 else b e μ1:=rfl
theorem Kv(e:Slots)(μ:aa):a6 e μ=.nx e μ:=rfl
theorem Mm(f:T->Option T)(a:D)(e:Slots)(μ:aa):dUn f a e μ=(a e μ).bind λx μ1=>R.lift (ap1 f (rd μ1 x)) μ1:=rfl
theorem Kw(f:T->T->Option T)(a b:D)(e:Slots)(μ:aa):ah f a b e μ=(a e μ).bind λx μ1=>(b e μ1).bind λy μ2=>R.lift (ap2 f (rd μ2 x) (rd μ2 y)) μ2:=rfl
theorem Kx(i:Nat)(e:Slots)(μ:aa):ae i e μ=R.lift (slot e i) μ:=rfl
theorem ML(t:T)(e:Slots)(μ:aa):dC t e μ=.ok (.val t) μ:=rfl
theorem J2(f:FN)(ds:List D)(e:Slots)(μ:aa):ax f ds e μ=(bW ds e μ).bind λxs μ1=>f xs μ1:=rfl
theorem GV(d:D)(ds:List D)(e:Slots)(μ:aa):bW (d::ds) e μ=(d e μ).bind λx μ1=>(bW ds e μ1).bind λxs μ2=>.ok (x::xs) μ2:=rfl
theorem HQ(e:Slots)(μ:aa):bW [] e μ=.ok [] μ:=rfl
theorem Ky(ds:List D)(e:Slots)(μ:aa):eP ds e μ=(bW ds e μ).bind λxs μ1=>(bS xs μ1).bind λts μ2=>.ok (.val (.tup ts)) μ2:=rfl
theorem Kz(ds:List D)(e:Slots)(μ:aa):bq ds e μ=(bW ds e μ).bind λxs μ1=>(bS xs μ1).bind λts μ2=>.ok (.val (.lst ts)) μ2:=rfl
theorem KA(a b:D)(e:Slots)(μ:aa):aF a b e μ=(a e μ).bind λx μ1=>(b e μ1).bind λy μ2=>R.lift ((rd μ2 y).bind λu=>iy μ2 x u) μ2:=rfl
theorem KC(a:D)(e:Slots)(μ:aa):cC a e μ=(a e μ).bind λx μ1=>R.lift ((jg μ1 x).map SV.val) μ1:=rfl
theorem Mn(f:FN)(xs:List SV)(μ:aa):cal f xs μ=(f xs μ).calm:=rfl
theorem HR(x:Option SV)(e:Slots)(i:Nat):slot (x::e) (i+1)=slot e i:=rfl
theorem HS(x:SV)(e:Slots):slot (some x::e) 0=some x:=rfl
theorem J3{α:Type}(a:α)(e:Slots)(μ:aa)(f:α->aa->RS):(R.ok a μ).toS e f=f a μ:=rfl
theorem Mp(μ:aa)(t:T):rd μ (.val t)=some t:=rfl
theorem J4(f:T->Option T)(t:T):ap1 f (some t)=(f t).map SV.val:=rfl
theorem J5(f:T->T->Option T)(t u:T):ap2 f (some t) (some u)=(f t u).map SV.val:=rfl
theorem Mq(b:Bool):asB (.val (.bl b))=some b:=rfl
theorem KD(μ:aa)(t:T):frz (.val t) μ=.ok t μ:=rfl
theorem J6(μ:aa):bS [] μ=.ok [] μ:=rfl
theorem HU(x:SV)(xs:List SV)(μ:aa):bS (x::xs) μ=(frz x μ).bind λt μ1=>(bS xs μ1).bind λts μ2=>.ok (t::ts) μ2:=rfl
theorem HV(e:Slots)(μ:aa)(f:Slots->aa->RS):(RS.nx e μ).seq f=f e μ:=rfl
theorem ET{α:Type}(a:α)(μ:aa):R.lift (some a) μ=.ok a μ:=rfl
theorem HW{α β:Type}(a:α)(μ:aa)(f:α->aa->R β):(R.ok a μ).bind f=f a μ:=rfl
theorem HX{α:Type}(a:α)(μ:aa):(R.ok a μ).calm=.ok a μ:=rfl
theorem KG(a b:D)(e:Slots)(μ:aa):j_ a b e μ=(a e μ).bind λx μ1=>(R.lift (asB x) μ1).bind λk μ1=>if k=true then b e μ1 else .ok (.val (.bl false)) μ1:=rfl
theorem Mr(a b:D)(e:Slots)(μ:aa):dOr a b e μ=(a e μ).bind λx μ1=>(R.lift (asB x) μ1).bind λk μ1=>if k=true then .ok (.val (.bl true)) μ1 else b e μ1:=rfl
theorem KH(a:D)(e:Slots)(μ:aa):gA a e μ=(a e μ).bind λx μ1=>(R.lift (asB x) μ1).bind λk μ1=>.ok (.val (.bl (!k))) μ1:=rfl
theorem KI(d:D)(e:Slots)(μ:aa):fB d e μ=(d e μ).bind λx μ1=>(R.lift ((rd μ1 x).bind cE) μ1).bind λts μ1=>.ok ⟨ts,λμ'=>rd μ' x=rd μ1 x⟩ μ1:=rfl
theorem KJ(it:DI)(b:BD)(body:DS)(e:Slots)(μ:aa):fg it b body e μ=(it e μ).toS e λW μ1=>forL W.same b body W.items e μ1:=rfl
theorem KL(e:Slots):ini [] e=[]:=rfl
theorem J7(mp:List (Option Nat))(e:Slots):ini (none::mp) e=none::ini mp e:=rfl
theorem J8(j:Nat)(mp:List (Option Nat))(e:Slots):ini (some j::mp) e=slot e j::ini mp e:=rfl
theorem J9(i:Nat)(t:T)(e:Slots):aS i t e=some (e.set i (some (.val t))):=rfl
end Fw
local macro_rules
 | `(tactic| simp_all! only [$ls,*]) => do
  let mut xs:Array (Lean.TSyntax `Lean.Parser.Tactic.simpLemma):=#[]
  for n in "Ks Kt Ku Ml Kv Mm Kw Kx ML J2 GV HQ Ky Kz KA KC Mn HR HS J3 Mp J4 J5 Mq KD J6 HU HV ET HW HX KG Mr KH KI KJ KL J7 J8 J9".splitOn " " do xs := xs.push (← `(Lean.Parser.Tactic.simpLemma| $(Lean.mkIdent (`Fw ++ n.toName)):term))
  `(tactic| try dsimp only [$(xs),*, Nat.reduceAdd, Nat.reduceSub, List.set_cons_succ, List.set_cons_zero, $ls,*])
namespace Fw.E
open PySem Fw Fw.H
structure Rw(p:Int)(L:Nat)(r:List Int):Prop where
 len:r.length=L
 lo:∀x∈r,0≤x
 hi:∀x∈r,x<p
noncomputable def g (r : List Int) (k : Nat) : Int := r.getD k 0
noncomputable def dot : List Int -> List Int -> Int
 | x::xs,y::ys=>x*y+dot xs ys
 | _,_=>0
theorem md(x p:Int):∃t,x%p=x-p*t:=⟨x / p,Int.emod_def x p⟩
def sub(p n:Int)(row lead:List Int):List Int:=(row.zip lead).map λq=>(q.1-n*q.2)%p
def fr(p:Int)(row lead:List Int)(q:Nat):List Int:=if g row q=0 then row else sub p (g row q) row lead
def Z(p:Int)(c r:List Int):Prop:=p ∣ dot c r
abbrev Ld:=Nat×List Int
abbrev li(r:List Int):T:=.lst (r.map T.int)
def dk(ls:List Ld):List (Key×T):=ls.map λq=>((.inl (q.1:Int):Key),li q.2)
section
variable{p:Int}{L m:Nat}
end
seal RS.B4
section
variable{p:Int}{L m:Nat}
end
theorem Rw.drop{p:Int}{n k:Nat}{r:List Int}(h:Rw p n r):Rw p (n-k) (r.drop k) :=
 ⟨by simp[h.len],λx hx=>h.lo x (List.mem_of_mem_drop hx),λx hx=>h.hi x (List.mem_of_mem_drop hx)⟩
def col(lines:List (List Int))(j:Nat):List Int:=lines.map λl=>g l j
section
variable{p:Int}{w:Nat}{lines:List (List Int)}{ws:List Int}
end
abbrev tu(r:List Int):T:=.tup (r.map T.int)
section
variable{p:Int}{w:Nat}{lines:List (List Int)}{ws:List Int}
theorem GW(xs:List T)(k:Int)(h:-(2 ^ 63)≤k/\k<2 ^ 63/\xs.length*k.toNat≤szL):l4 (.lst xs) (.int k)=some (.lst (List.replicate k.toNat xs).flatten):=if_pos h
end
section
variable{p:Int}{w:Nat}{lines:List (List Int)}{ws:List Int}
end
section
variable{p:Int}{w:Nat}{lines:List (List Int)}{ws:List Int}
end
end Fw.E
namespace Fw.F
open PySem Fw Fw.H Fw.E
abbrev Rows:=List (Int×List Int)
def rt(q:Int×List Int):T:=.tup [.int q.1,tu q.2]
def tb(p:Int)(w:Nat)(rows:Rows):T:=.tup [.int p,.int w,.tup (rows.map rt)]
theorem GX(μ:aa)(t:T):ice μ.length (.cel μ.length) (μ++[(true,t)])=.ok (.val t) μ:=by
 unfold ice
 rw[B0 (b:=true) (t:=t) (by simp),R.aQ]
 simp
end Fw.F
namespace Fw
open PySem Fw Fw.H Fw.E
theorem GY:fEq (.lst []) (.lst [])=some (.bl true):=sE [] []
theorem GZ:fNe (.lst []) (.lst [])=some (.bl false):=sF [] []
theorem J_(x:SV)(μ:aa):R.ok x (μ.take μ.length)=R.ok x μ:=by rw[List.take_length]
def stw:=And.intro @kf <| And.intro @FJ <| And.intro @FK <| And.intro @Jl <| And.intro @BG <| And.intro @FI <| And.intro @u0 <| And.intro @Gi <| And.intro @yP <| And.intro @sJ <| And.intro @B_ <| And.intro @FP <| And.intro @sC <| And.intro @qp <| And.intro @gz <| And.intro @Fl <| And.intro @sA <| And.intro @Br <| And.intro @bz <| And.intro @yv <| And.intro @Fn <| And.intro @Fm <| And.intro @Jg <| And.intro @Fo <| And.intro @Fp <| And.intro @wU <| And.intro @FF <| And.intro @FG <| And.intro @BH <| And.intro @FH <| And.intro @yA <| And.intro @yB <| And.intro @Fs <| And.intro @FL <| And.intro @u3 <| And.intro @u4 <| And.intro @FO <| And.intro @Cd <| And.intro @yM <| And.intro @FQ <| And.intro @BI <| And.intro @BJ <| And.intro @eg <| And.intro @yD <| And.intro @Cf <| And.intro @Jh <| And.intro @gB <| And.intro @jG <| And.intro @jH <| And.intro @yJ <| And.intro @yu <| And.intro @yr <| And.intro @yt <| And.intro @R.toS_ok <| And.intro @Bm <| And.intro @qD <| And.intro @Gh <| And.intro @Bp <| And.intro @Bq <| And.intro @toCell_val <| And.intro @du <| And.intro @yz <| And.intro @wR <| And.intro @Bo <| And.intro @k7 <| And.intro @RS.aM <| And.intro @RS.mT <| And.intro @eQ <| And.intro @FR <| And.intro @FT <| And.intro @gE <| And.intro @yx <| And.intro @uW <| And.intro @uX <| And.intro @qr <| And.intro @qt <| And.intro @BC <| And.intro @BE <| And.intro @Bz <| And.intro @BA <| And.intro @BB <| And.intro @Bt <| And.intro @Bu <| And.intro @kb <| And.intro @mR <| And.intro @Bv <| And.intro @Ft <| And.intro @ka <| And.intro @Fu <| And.intro @Fv <| And.intro @Fx <| And.intro @Fy <| And.intro @FA <| And.intro @FC <| And.intro @FD <| And.intro @FE <| And.intro @sE <| And.intro @sF <| And.intro @GY <| And.intro @GZ <| And.intro @J_ <| And.intro @yN <| And.intro @Ce <| And.intro @Gg <| And.intro @uY <| And.intro @uZ <| And.intro @Cg <| And.intro @R.bf <| And.intro @R.aQ <| And.intro @R.iZ <| And.intro @B1 <| And.intro @F_ <| @Ga
def stc:=And.intro @Option.bind_some.{0,0} <| And.intro @Option.map_some.{0,0} <| And.intro @List.map_cons.{0,0} <| And.intro @List.map_nil.{0,0} <| And.intro @List.length_cons.{0} <| And.intro @List.length_nil.{0} <| And.intro @List.cons_append.{0} <| And.intro @List.nil_append.{0} <| And.intro @List.replicate_succ.{0} <| And.intro @List.replicate_zero.{0} <| And.intro @List.set_cons_succ.{0} <| And.intro @List.set_cons_zero.{0} <| And.intro @List.getElem?_cons_zero.{0} <| And.intro @List.getElem?_cons_succ.{0} <| And.intro @List.take_zero.{0} <| And.intro @List.take_nil.{0} <| And.intro @beq_self_eq_true.{0} <| And.intro @if_false.{1} <| And.intro @if_true.{1} <| And.intro @Bool.false_eq_true <| And.intro @Bool.not_true <| @Bool.not_false
end Fw
local macro_rules
  | `(tactic| simp?! only [$ls,*]) => `(tactic| simp (disch := first | decide | omega | assumption) only [Fw.stw, Fw.stc, Nat.reduceAdd, Nat.reduceSub, $ls,*])
namespace Fw
open PySem Fw Fw.H Fw.E
end Fw
local macro_rules
 | `(tactic| simp! only [$ls,*]) => do
  let mut xs:Array (Lean.TSyntax `Lean.Parser.Tactic.simpLemma):=#[]
  for n in "Ks Kt Ku Ml Kv Mm Kw Kx ML J2 GV HQ Ky Kz KA KC Mn HR HS J3 Mp J4 J5 Mq KD J6 HU HV ET HW HX KG Mr KH KI KJ KL J7 J8 J9 BG u0 Gi yP sJ B_ sC Fo BH FH yA yB Fs u3 u4 FO Cd yM yD Cf gB jG jH yJ yt qD Gh toCell_val yz RS.mT eQ FR FT gE yx uW uX qr qt BC BE Bz BA BB Bt Bu kb mR Bv Ft ka Fu Fv Fx Fy FA FC FD FE sE sF GY GZ J_ yN Ce Gg uY uZ Cg B1 F_ Ga".splitOn " " do xs := xs.push (← `(Lean.Parser.Tactic.simpLemma| $(Lean.mkIdent (`Fw ++ n.toName)):term))
  `(tactic| simp (disch := first | decide | omega | assumption) only [$(xs),*, Fw.stc, Nat.reduceAdd, Nat.reduceSub, $ls,*])
local macro_rules
 | `(tactic| dsimp! only [$ls,*]) => do
  let mut xs:Array (Lean.TSyntax `Lean.Parser.Tactic.simpLemma):=#[]
  for n in "HR HS Kx ML Mp KD Mq kf FJ FK Jl BG FI u0 Gi yP sJ B_ FP sC qp gz Br bz yv Fn Fm Jg Fo Fp wU FF FG BH FH yA yB Fs FL u3 u4 FO Cd yM FQ BI BJ eg yD Cf Jh gB jG jH yJ yt R.toS_ok qD Gh Bp Bq toCell_val yz Bo k7 RS.aM RS.mT eQ FR FT gE yx uW uX qr qt BC BE Bz BA BB Bt Bu kb mR Bv Ft ka Fu Fv Fx Fy FA FC FD FE sE sF GY GZ J_ yN Ce Gg uY uZ Cg R.bf R.aQ R.iZ B1 F_ Ga".splitOn " " do xs := xs.push (← `(Lean.Parser.Tactic.simpLemma| $(Lean.mkIdent (`Fw ++ n.toName)):term))
  `(tactic| simp (disch := first | decide | omega | assumption) only [$(xs),*, Fw.stc, Nat.reduceAdd, Nat.reduceSub, $ls,*])
namespace Fw.U
open PySem Fw Builtin.Str
abbrev tl(s:Str):List Nat:=s.cps.toList
theorem jY(a b:Str):tl (a++b)=tl a++tl b:=Array.toList_append
theorem ay(s:Str):s.length=(tl s).length:=by show s.cps.size=_;simp
theorem cz{a b:Str}(h:tl a=tl b):a=b:=by
 cases a;cases b
 simp only[tl,Array.toList_inj] at h
 rw[h]
theorem eE(n i:Nat):fromIndex n (i:Int)=i:=by
 unfold fromIndex
 rw[if_neg (by lia)]
 lia
theorem jd{s t:Str}{pre rest:List Nat}(h:tl s=pre++rest):Txt.startswith3 s t (pre.length:Int)=(rest.take t.length==tl t):=by
 unfold Txt.startswith3
 rw[eE,StrLaws.subAt_eq]
 have e:s.cps.toList.drop pre.length=rest:=by
  show(tl s).drop pre.length=rest
  rw[h];simp
 rw[e]
 have l1:s.length=pre.length+rest.length:=by rw[ay,h,List.length_append]
 by_cases c:t.length≤rest.length
 ·rw[decide_eq_true (by lia),Bool.true_and]
 ·rw[decide_eq_false (by lia),Bool.false_and,eq_comm,beq_eq_false_iff_ne]
  intro q
  have:=congrArg List.length q
  rw[List.length_take,← ay] at this
  lia
theorem pU{t:Str}{c b:Nat}{rest r2:List Nat}(h:tl t=b::r2)(hn:b≠c):((c::rest).take t.length==tl t)=false:=by
 rw[beq_eq_false_iff_ne,ay,h]
 intro q
 simp at q
 exact hn q.1.symm
theorem wa{t:Str}{rest:List Nat}:((tl t++rest).take t.length==tl t)=true:=by
 rw[ay];simp
theorem rB(sep:Str):∀(ws:List Str) (w:Str),tl (Txt.join sep (w::ws))=tl w++ws.flatMap λx=>tl sep++tl x:=by
 have go:∀(ws:List Str) (acc:Array Nat),(ws.foldl (λacc p=>acc++sep.cps++p.cps) acc).toList=acc.toList++ws.flatMap λx=>tl sep++tl x:=by
  intro ws
  induction ws with
  | nil=>intro acc;simp
  | cons w ws ih=>intro acc;rw[List.foldl_cons,ih];simp[tl]
 intro ws w
 exact go ws w.cps
theorem xq{sep:Str}{ws:List Str}{n:Nat}(h:∀w∈ws,w.length≤n)(hz:ws.length*(n+sep.length)≤szL):JoinOk sep ws=true:=by
 have go:∀(ws:List Str) (a:Nat),(∀w∈ws,w.length≤n)->ws.foldl (λa w=>a+w.length+sep.length) a≤a+ws.length*(n+sep.length):=by
  intro ws
  induction ws with
  | nil=>intro a _;simp
  | cons w ws ih =>
   intro a h
   rw[List.foldl_cons]
   refine Nat.le_trans (ih _ λx hx=>h x (List.mem_cons_of_mem _ hx)) ?_
   have:=h w List.mem_cons_self
   rw[List.length_cons,Nat.succ_mul]
   lia
 unfold JoinOk tooLong
 have:=go ws 0 h
 rw[List.foldl_toArray]
 have e:szL=sizeLine:=rfl
 simp only[Bool.not_eq_true',decide_eq_false_iff_not,gt_iff_lt,Nat.not_lt]
 rw[← e]
 lia
def heads:List Str:=["all (","one (","2 of (","3 of (","4 of (","5 of (","6 of (","7 of (","8 of (","9 of ("]
def bg(k m:Int):Str:=if k=m then "all (" else if k=1 then "one (" else toString k++" of ("
def ltr(h:Int):List Nat:=[97+h.toNat]
theorem rD:∀h∈heads,∀h'∈heads,(tl h).head?=(tl h').head?->h'=h:=by decide +kernel
theorem dY:∀h∈heads,tl h≠[]/\h.length≤6:=by decide +kernel
theorem wb:∀h∈heads,heads.find? (λh'=>h'==h)=some h:=by decide +kernel
theorem An:∀m∈List.range 11,∀k∈List.range 11,1≤k->k≤m->bg k m∈heads:=by decide +kernel
theorem Ao:∀m∈List.range 11,∀k∈List.range 11,∀j∈List.range 11,1≤k->k≤m->1≤j->j≤m->bg k m=bg j m->k=j:=by decide +kernel
theorem head_mem{k m:Int}(h1:1≤k)(h2:k≤m)(h3:m≤10):bg k m∈heads:=by
 have:=An m.toNat (List.mem_range.mpr (by lia)) k.toNat (List.mem_range.mpr (by lia)) (by lia) (by lia)
 rw[show((k.toNat:Nat):Int)=k by lia,show((m.toNat:Nat):Int)=m by lia] at this
 exact this
theorem DY{k j m:Int}(h1:1≤k)(h2:k≤m)(h3:m≤10)(h4:1≤j)(h5:j≤m)(h:bg k m=bg j m):k=j:=by
 have:=Ao m.toNat (List.mem_range.mpr (by lia)) k.toNat (List.mem_range.mpr (by lia)) j.toNat (List.mem_range.mpr (by lia)) (by lia) (by lia) (by lia) (by lia)
  (by rw[show((k.toNat:Nat):Int)=k by lia,show((m.toNat:Nat):Int)=m by lia,show((j.toNat:Nat):Int)=j by lia];exact h)
 lia
theorem lQ{h:Str}{rest:List Nat}(hm:h∈heads):heads.find? (λh'=>(tl h++rest).take h'.length==tl h')=some h:=by
 rw[← wb h hm]
 have:∀h'∈heads,((tl h++rest).take h'.length==tl h')=(h'==h):=by
  intro h' hm'
  by_cases e:h'=h
  ·subst e;rw[wa];simp
  ·have h2:=rD h hm h' hm'
   obtain⟨n1,_⟩:=dY h hm
   obtain⟨n2,_⟩:=dY h' hm'
   obtain⟨c,r,ec⟩:=List.exists_cons_of_ne_nil n1
   obtain⟨b,r2,eb⟩:=List.exists_cons_of_ne_nil n2
   rw[ec,List.cons_append,pU eb]
   ·rw[eq_comm,beq_eq_false_iff_ne];exact e
   ·intro q
    apply e
    apply h2
    rw[ec,eb,q];rfl
 clear hm
 revert this
 generalize heads=l0
 intro this
 induction l0 with
 | nil=>rfl
 | cons a l ih =>
  rw[List.find?_cons,List.find?_cons,this a List.mem_cons_self]
  cases (a==h) with
  | true=>rfl
  | false=>exact ih λx hx=>this x (List.mem_cons_of_mem _ hx)
theorem wc:∀h∈heads,(∀c∈List.range 10,(tl h).head?≠some (97+c))∨h="all (":=by decide +kernel
theorem xr{c:Nat}{rest:List Nat}(hc:c<10)(hr:rest.head?≠some 108):heads.find? (λh'=>((97+c)::rest).take h'.length==tl h')=none:=by
 rw[List.find?_eq_none]
 intro h hm
 rw[Bool.not_eq_true]
 rcases wc h hm with z|rfl
 ·have z:=z c (List.mem_range.mpr hc)
  obtain⟨n2,_⟩:=dY h hm
  obtain⟨b,r2,eb⟩:=List.exists_cons_of_ne_nil n2
  refine pU eb λq=>z ?_
  rw[eb,q];rfl
 ·rw[beq_eq_false_iff_ne,show tl ("all (":Str)=[97,108,108,32,40] by decide +kernel,show("all (":Str).length=5 by decide +kernel]
  intro q
  cases rest with
  | nil=>simp at q
  | cons a r=>simp at q;exact hr (by simp[q.2.1])
theorem wd:∀c∈List.range 10,occurrences ("abcdefghij":Str) ⟨#[97+c]⟩ 0 ("abcdefghij":Str).length 1=[c]:=by decide +kernel
theorem uk:∀c∈List.range 10,atI (tl ("abcdefghij":Str)) (c:Int)=some (97+c):=by decide +kernel
theorem rE:∀c∈List.range 10,atI (tl ("abcdefghijklmnopqrstuvwxyz":Str)) (c:Int)=some (97+c):=by decide +kernel
end Fw.U
namespace Fw.F
open PySem Fw Fw.H Fw.E
end Fw.F
namespace Fw.J
open PySem Fw Fw.H Fw.E Fw.F
def pV:DS :=
 (aq (sIf (ah fLt (ae 1) (cC (ae 0))) (aK (aF (ae 0) (ae 1))) a6)
 (aq (sIf (ah fEq (cC (ae 0)) (dC (.int 0))) (aK (ah av (ah cg (ah cg (ae 1) (ae 1)) (dC (.int 48271))) (ah cg (dC (.int 7)) (ae 1)))) a6)
 (aK (ah av (ah cB (aF (ae 0) (ah bp (ae 1) (cC (ae 0)))) (ah av (dC (.int 1)) (ah cB (ae 1) (cC (ae 0))))) (ah cg (ah cg (ae 1) (ae 1)) (dC (.int 7919)))))))
def fw:FN:=fnV 2 pV
theorem h8(ns:List Int)(k:Int)(h0:0≤k)(h1:k≤1000):∃c,∀μ,fw [.val (.lst (ns.map T.int)),.val (.int k)] μ=.ok (.val (.int c)) μ:=by
 unfold fw pV
 by_cases h:k<ns.length
 ·exact⟨_,λμ=>by simp[h,kj h0 h];rfl⟩
 ·have m2:cg (.int (k*k)) (.int 48271)=some (.int (k*k*48271)):=ka _ _ (by lia) (by lia)
  have m3:cg (.int (k*k)) (.int 7919)=some (.int (k*k*7919)):=ka _ _ (by lia) (by lia)
  have m1:cg (.int k) (.int k)=some (.int (k*k)):=ka _ _ (by lia) (by lia)
  by_cases h2:0<ns.length
  ·have p0:0≤k%(ns.length:Int):=Int.emod_nonneg _ (by lia)
   have p1:k%(ns.length:Int)<ns.length:=Int.emod_lt_of_pos _ (by lia)
   have d0:0≤k / (ns.length:Int):=Int.ediv_nonneg h0 (by lia)
   have n0:((ns.length:Int)==0)=false:=by rw[beq_eq_false_iff_ne];lia
   have d1:k / (ns.length:Int)≤1000:=Int.le_trans (Int.ediv_le_self _ h0) h1
   have hd:∀a:Int,cB (.int a) (.int (1+k / (ns.length:Int)))=some (.int (a / (1+k / (ns.length:Int)))):=λa=>mR _ _ (by lia) (by lia)
   have hl:decide (k<(ns.length:Int))=false:=decide_eq_false h
   exact⟨_,λμ=>by simp! only[List.length_map,hl,n0,kj p0 p1,hd,m1,m3];rfl⟩
  ·have hl:decide (k<(ns.length:Int))=false:=decide_eq_false h
   have n0:((ns.length:Int)==0)=true:=by rw[beq_iff_eq];lia
   exact⟨_,λμ=>by simp! only[List.length_map,hl,n0,m1,m2];rfl⟩
def rF:DS:=(sIf (ah fEq (ah bp (ax (cal fw) [(ae 0),(dC (.int 0))]) (dC (.int 2))) (dC (.int 0))) (aq (cX (ae 5) (ah bp (ae 4) (ae 2)))
 (az 4 (ah cB (ae 4) (ae 2)))) (aq (az 4 (ah bp (ah cg (ah av (ah bp (ae 4) (dC (.int 2147483647))) (dC (.int 1))) (dC (.int 48271))) (dC (.int 2147483647))))
 (cX (ae 5) (ah bp (ah cB (ah bp (ah av (ah cg (ae 4) (dC (.int 69621))) (ah cg (ae 6) (dC (.int 16807)))) (dC (.int 2147483629))) (dC (.int 11))) (ae 2)))))
def my:DS :=
 (aq (az 4 (ax (cal fw) [(ae 0),(ae 1)]))
 (aq (az 5 (bQ (bq [])))
 (aq (fg (cY (ae 3)) (aS 6) rF)
 (aK (ae 5)))))
theorem Rw.snoc{m x:Int}{i:Nat}{ns:List Int}(h:Rw m i ns)(h0:0≤x)(h1:x<m):Rw m (i+1) (ns++[x]):=by
 refine⟨by have:=h.1;simp;lia,λy hy=>?_,λy hy=>?_⟩
 ·rcases List.mem_append.mp hy with z|z
  ·exact h.2 y z
  ·simp at z;lia
 ·rcases List.mem_append.mp hy with z|z
  ·exact h.3 y z
  ·simp at z;lia
theorem DZ(ns:List Int)(at_ base:Int)(n:Nat)(ha:0≤at_/\at_≤1000)(hm:0<base)(hm2:base<1000000)(hn:n≤1000)(μ:aa) :
  ∃r,my (starts 7 [.val (.lst (ns.map T.int)),.val (.int at_),.val (.int base),.val (.int n)]) μ=.rt (.cel μ.length) (μ++[(true,li r)])/\Rw base n r:=by
 obtain⟨c,hc⟩:=h8 ns at_ ha.1 ha.2
 obtain⟨c0,hc0⟩:=h8 ns 0 (by lia) (by lia)
 have rn:dw (n:Int)=true:=gi (by lia) (by lia)
 obtain⟨e',μ',h1,x4,x6,r,rfl,rfl,hR⟩:=mv (same:=λ_=>True) (b:=aS 6) (ts:=cj 0 (n:Int).toNat) (body:=rF)
  (I:=λi e μ1=>∃x4 x6 r,e=[some (.val (.lst (ns.map T.int))),some (.val (.int at_)),some (.val (.int base)),some (.val (.int n)),some (.val (.int x4)),some (.cel μ.length),x6]/\μ1=μ++[(true,li r)]/\Rw base i r)
  (λ_ _ _ _=>trivial) (λi t e μ1 ht ao=>by
   obtain⟨x4,x6,r,he,hμ,hR⟩:=ao
   subst he hμ
   obtain⟨k,rfl,hi,hk⟩:=qE ht
   have hi:i<n:=by simpa using hi
   have hl:(r.map T.int).length<szL:=by have:=hR.1;unfold szL;simp;lia
   generalize hq:(true,li r)=q
   have hls:oP (.cel μ.length) (μ++[q])=some ():=by rw[← hq];exact m7 _ _ _ _
   have hap:∀t,appendAt (.cel μ.length) t (μ++[q])=some (μ++[(true,T.lst (r.map T.int++[t]))]):=λt=>by rw[← hq];exact m8 _ _ _ _ hl
   have Ms:∀a:Int,bp (.int a) (.int base)=some (.int (a%base)):=λa=>kb _ _ (by lia)
   have hdiv:∀a:Int,cB (.int a) (.int base)=some (.int (a / base)):=λa=>mR _ _ (by lia) (by lia)
   cases hz:(c0%2==0) with
   | true =>
    refine⟨_,_,_,rfl,?_,x4 / base,some (.val (.int k)),r++[x4%base],rfl,rfl,Rw.snoc hR (Int.emod_nonneg _ (by lia)) (Int.emod_lt_of_pos _ hm)⟩
    unfold rF
    dsimp! only[hc0,hz,hls,hap,Ms,hdiv]
    simp
   | false =>
    have y0:0≤(x4%2147483647+1)*48271%2147483647/\(x4%2147483647+1)*48271%2147483647<2147483647:=by lia
    have m1:cg (.int (x4%2147483647+1)) (.int 48271)=some (.int ((x4%2147483647+1)*48271)):=ka _ _ (by lia) (by lia)
    refine⟨_,_,_,rfl,?_,(x4%2147483647+1)*48271%2147483647,some (.val (.int k)),r++[((x4%2147483647+1)*48271%2147483647*69621+k*16807)%2147483629 / 11%base],rfl,rfl,Rw.snoc hR (Int.emod_nonneg _ (by lia)) (Int.emod_lt_of_pos _ hm)⟩
    unfold rF
    dsimp! only[hc0,hz,m1]
    generalize (x4%2147483647+1)*48271%2147483647=y at y0 ⊢
    dsimp! only[hls,hap,Ms]
    simp)
  (e:=[some (.val (.lst (ns.map T.int))),some (.val (.int at_)),some (.val (.int base)),some (.val (.int n)),some (.val (.int c)),some (.cel μ.length),none]) (μ:=μ++[(true,li [])]) ⟨c,none,[],rfl,rfl,rfl,by simp,by simp⟩
 rw[yK,Int.toNat_natCast] at hR
 refine⟨r,?_,hR⟩
 unfold my
 dsimp! only[hc,rn]
 rw[show(true,T.lst [])=(true,li []) from rfl,h1]
 dsimp! only[]
theorem D0(ns:List Int)(at_ base:Int)(n:Nat)(ha:0≤at_/\at_≤1000)(hm:0<base)(hm2:base<1000000)(hn:n≤1000)(μ:aa) :
  ∃r,fnV 7 my [.val (.lst (ns.map T.int)),.val (.int at_),.val (.int base),.val (.int n)] μ=.ok (.val (li r)) μ/\Rw base n r:=by
 obtain⟨r,h,hR⟩:=DZ ns at_ base n ha hm hm2 hn μ
 exact⟨r,by rw[gB,h,eQ,GX],hR⟩
end Fw.J
namespace Fw.U
open PySem Fw Fw.H Fw.E
abbrev hnd(h:Int):T:=.tup [.str "hand",.int h]
abbrev som(k:Int)(rs:List T):T:=.tup [.str "some",.int k,.tup rs]
def IsR:Nat->T->Prop
 | 0,t=>∃h:Int,0≤h/\h<10/\t=hnd h
 | d+1,t=>(∃h:Int,0≤h/\h<10/\t=hnd h)∨∃(k:Int) (r:T) (rs:List T),t=som k (r::rs)/\1≤k/\k≤rs.length+1/\rs.length+1≤10/\∀x∈r::rs,IsR d x
def hTx:T->List Nat
 | .tup [_,.int h]=>ltr h
 | _=>[]
def txt:Nat->T->List Nat
 | 0,t=>hTx t
 | d+1,t=>match t with
  | .tup [_,.int k,.tup (r::rs)]=>tl (bg k (rs.length+1))++(txt d r++((rs.flatMap λx=>44::32::txt d x)++[41]))
  | t=>hTx t
theorem d_(d:Nat)(h:Int):txt d (hnd h)=ltr h:=by cases d<;>rfl
theorem eZ(d:Nat)(k:Int)(r:T)(rs:List T):txt (d+1) (som k (r::rs))=tl (bg k (rs.length+1))++(txt d r++((rs.flatMap λx=>44::32::txt d x)++[41])):=rfl
def bnd:Nat->Nat
 | 0=>1
 | d+1=>10*bnd d+27
theorem oi{f:T->List Nat}{n:Nat}:∀{rs:List T},(∀x∈rs,(f x).length≤n)->(rs.flatMap λx=>44::32::f x).length≤rs.length*(n+2)
 | [],_=>by simp
 | r::rs,h=>by
  have h1:=h r List.mem_cons_self
  have h2:=oi (rs:=rs) λx hx=>h x (List.mem_cons_of_mem _ hx)
  rw[List.flatMap_cons,List.length_append,List.length_cons,List.length_cons,List.length_cons,Nat.succ_mul]
  lia
theorem mz:∀(d:Nat) (t:T),IsR d t->(txt d t).length≤bnd d:=by
 intro d
 induction d with
 | zero =>
  rintro t ⟨h,_,_,rfl⟩
  rw[d_];simp[ltr,bnd]
 | succ d ih =>
  rintro t (⟨h,_,_,rfl⟩|⟨k,r,rs,rfl,h1,h2,h3,h4⟩)
  ·rw[d_];simp[ltr,bnd]
  ·rw[eZ]
   have a1:=(dY _ (head_mem h1 h2 (by lia))).2
   rw[ay] at a1
   have a2:=ih r (h4 r List.mem_cons_self)
   have a3:=oi (rs:=rs) λx hx=>ih x (h4 x (List.mem_cons_of_mem _ hx))
   have a4:rs.length*(bnd d+2)≤9*(bnd d+2):=Nat.mul_le_mul_right _ (by lia)
   rw[List.length_append,List.length_append,List.length_append]
   simp only[List.length_cons,List.length_nil,bnd]
   lia
theorem we:∀d,d≤5->bnd d≤400000:=by decide
def hHd:T->List Int
 | .tup [_,.int h]=>[h]
 | _=>[]
noncomputable def hwd : Nat -> T -> List Int
 | 0,t=>hHd t
 | d+1,t=>match t with
  | .tup [_,.int _,.tup rs]=>rs.flatMap (hwd d)
  | t=>hHd t
theorem kO:(("some":Str)=="hand")=false:=by decide +kernel
def gs:DS:=(aK (ah fEq (aF (ae 0) (dC (.int 0))) (dC (.str "hand"))))
def bN:FN:=fnV 1 gs
theorem kP(h:Int)(μ:aa):bN [.val (hnd h)] μ=.ok (.val (.bl true)) μ:=by unfold bN gs;simp?! only[]
theorem xt(k:Int)(rs:List T)(μ:aa):bN [.val (som k rs)] μ=.ok (.val (.bl false)) μ:=by unfold bN gs;simp?! only[kO]
theorem h_(d:Nat)(h:Int):hwd d (hnd h)=[h]:=by cases d<;>rfl
theorem rG(d:Nat)(k:Int)(rs:List T):hwd (d+1) (som k rs)=rs.flatMap (hwd d):=rfl
theorem xu{α:Type}{f:T->List α}{n:Nat}:∀{rs:List T},(∀x∈rs,(f x).length≤n)->(rs.flatMap f).length≤rs.length*n
 | [],_=>by simp
 | r::rs,h=>by
  have h1:=h r List.mem_cons_self
  have h2:=xu (rs:=rs) λx hx=>h x (List.mem_cons_of_mem _ hx)
  rw[List.flatMap_cons,List.length_append,List.length_cons,Nat.succ_mul]
  lia
theorem G0:∀(d:Nat) (t:T),IsR d t->(hwd d t).length≤10 ^ d:=by
 intro d
 induction d with
 | zero =>
  rintro t ⟨h,_,_,rfl⟩
  rw[h_];simp
 | succ d ih =>
  rintro t (⟨h,_,_,rfl⟩|⟨k,r,rs,rfl,h1,h2,h3,h4⟩)
  ·rw[h_];exact Nat.pos_of_ne_zero (by simp)
  ·rw[rG]
   refine Nat.le_trans (xu λx hx=>ih x (h4 x hx)) ?_
   rw[Nat.pow_succ,Nat.mul_comm]
   exact Nat.mul_le_mul_left _ (by simpa using h3)
theorem Ka:∀d,d≤5->10 ^ d≤100000:=by decide
def oj(bA:FN):DS:=(mw (ae 1) (ax (cal bA) [(ae 2)]))
def bI(bA:FN):DS :=
 (aq (sIf (ax (cal bN) [(ae 0)]) (aK (bq [(aF (ae 0) (dC (.int 1)))])) a6)
 (aq (az 1 (bQ (bq [])))
 (aq (fg (fB (aF (ae 0) (dC (.int 2)))) (aS 2) (oj bA))
 (aK (ae 1)))))
theorem wg(μ:aa)(ts us:List T)(hl:ts.length+us.length≤szL):fj (.cel μ.length) (.lst us) (μ++[(true,.lst ts)])=some (μ++[(true,.lst (ts++us))]):=by
 unfold fj
 simp only[qC]
 rw[if_pos hl]
 simp
theorem om{G:FN}{d:Nat}(μ:aa)(same:aa->Prop)(hsm:∀μ',same μ')(x0:Option SV):∀(rs:List T) (acc:List Int) (x2:Option SV),(∀x∈rs,(hwd d x).length≤100000/\∀μ,G [.val x] μ=.ok (.val (li (hwd d x))) μ)->acc.length+rs.length*100000≤2000000 ->
  ∃x2',forL same (aS 2) (oj G) rs [x0,some (.cel μ.length),x2] (μ++[(true,li acc)])=.nx [x0,some (.cel μ.length),x2'] (μ++[(true,li (acc++rs.flatMap (hwd d)))])
 | [],acc,x2,_,_=>⟨x2,by unfold forL;rw[if_pos (hsm _)];simp⟩
 | r::rs,acc,x2,h,hl=>by
  obtain⟨b1,h1⟩:=h r List.mem_cons_self
  rw[List.length_cons,Nat.succ_mul] at hl
  obtain⟨x2',ih⟩:=om μ same hsm x0 rs (acc++hwd d r) (some (.val r)) (λx hx=>h x (List.mem_cons_of_mem _ hx)) (by rw[List.length_append];lia)
  refine⟨x2',?_⟩
  have e1:fj (.cel μ.length) (li (hwd d r)) (μ++[(true,li acc)])=some (μ++[(true,li (acc++hwd d r))]):=by
   rw[wg _ _ _ (by simp[szL];lia)];simp
  have hb:oj G [x0,some (.cel μ.length),some (.val r)] (μ++[(true,li acc)])=.nx [x0,some (.cel μ.length),some (.val r)] (μ++[(true,li (acc++hwd d r))]):=by
   unfold oj
   rw[vf]
   simp?! only[m7,h1,e1]
  unfold forL
  rw[if_pos (hsm _)]
  simp only[eg,List.set_cons_succ,List.set_cons_zero,hb]
  rw[ih,List.flatMap_cons,List.append_assoc]
theorem D1{F:Nat->FN}(hF:∀n,F (n+1)=fnV 3 (bI (F n))):∀(d n:Nat) (t:T),IsR d t->d≤n->d≤5->∀(μ:aa),F (n+1) [.val t] μ=.ok (.val (li (hwd d t))) μ:=by
 intro d
 induction d with
 | zero =>
  rintro n t ⟨h,_,_,rfl⟩ hn h5 μ
  rw[hF,h_]
  unfold bI
  simp?! only[kP]
  rfl
 | succ d ih =>
  rintro n t ht hn h5 μ
  obtain⟨m,rfl⟩:∃m,n=m+1:=⟨n-1,by lia⟩
  rcases ht with ⟨h,_,_,rfl⟩|⟨k,r,rs,rfl,h1,h2,h3,h4⟩
  ·rw[hF,h_]
   unfold bI
   simp?! only[kP]
   rfl
  ·have hc:=λ(same:aa->Prop) (hs':∀μ',same μ')=>om (G:=F (m+1)) (d:=d) μ same hs' (some (.val (som k (r::rs)))) (r::rs) [] none (λx hx=>⟨Nat.le_trans (G0 d x (h4 x hx)) (Ka d (by lia)),ih m x (h4 x hx) (by lia) (by lia)⟩) (by simp;lia)
   obtain⟨x2',e2⟩:=hc (λ_=>True) λ_=>trivial
   rw[List.nil_append] at e2
   have e3:forL (λ_=>True) (aS 2) (oj (F (m+1))) (r::rs) [some (.val (som k (r::rs))),some (.cel μ.length),none] (μ++[(true,.lst [])])=.nx [some (.val (som k (r::rs))),some (.cel μ.length),x2'] (μ++[(true,li ((r::rs).flatMap (hwd d)))]):=e2
   rw[hF,rG]
   unfold bI
   simp?! only[xt]
   rw[e3]
   simp?! only[F9]
abbrev tx(d:Nat)(t:T):Str:=⟨(txt d t).toArray⟩
theorem um(d:Nat)(t:T):tl (tx d t)=txt d t:=by simp[tl]
theorem wj(d:Nat)(t:T):(tx d t).length=(txt d t).length:=by rw[ay,um]
theorem rH(d:Nat)(h:Int):tx d (hnd h)=⟨#[97+h.toNat]⟩:=by
 apply cz
 rw[um,d_];rfl
theorem xv{h:Int}(h0:0≤h)(h1:h<10):sG (.str "abcdefghij") (.int h)=some (.str ⟨#[97+h.toNat]⟩):=by
 have e:=uk h.toNat (List.mem_range.mpr (by lia))
 rw[show((h.toNat:Nat):Int)=h by lia] at e
 show(if ("abcdefghij":Str).length≤szL then (atI (tl ("abcdefghij":Str)) h).map λc=>T.str ⟨#[c]⟩ else none)=_
 rw[if_pos (by decide +kernel),e];rfl
theorem uo{h:Int}(h0:0≤h)(h1:h<10):sG (.str "abcdefghijklmnopqrstuvwxyz") (.int h)=some (.str ⟨#[97+h.toNat]⟩):=by
 have e:=rE h.toNat (List.mem_range.mpr (by lia))
 rw[show((h.toNat:Nat):Int)=h by lia] at e
 show(if ("abcdefghijklmnopqrstuvwxyz":Str).length≤szL then (atI (tl ("abcdefghijklmnopqrstuvwxyz":Str)) h).map λc=>T.str ⟨#[c]⟩ else none)=_
 rw[if_pos (by decide +kernel),e];rfl
theorem dJ(μ:aa)(x:Str)(u:T):iy μ (.val (.str x)) u=(sG (.str x) u).map SV.val:=(rfl)
abbrev inn(d:Nat)(r:T)(rs:List T):Str:=Txt.join ", " ((r::rs).map (tx d))
theorem D2(d:Nat)(r:T)(rs:List T):tl (inn d r rs)=txt d r++(rs.flatMap λx=>44::32::txt d x):=by
 show tl (Txt.join ", " (tx d r::rs.map (tx d)))=_
 rw[rB,um]
 rw[List.flatMap_map,show tl (", ":Str)=[44,32] by decide +kernel]
 congr 1
theorem xw{d:Nat}{r:T}{rs:List T}(h5:d≤5)(h3:rs.length+1≤10)(h4:∀x∈r::rs,IsR d x):(inn d r rs).length≤4100000:=by
 rw[ay,D2,List.length_append]
 have a0:=we d h5
 have a2:=mz d r (h4 r List.mem_cons_self)
 have a3:=oi (rs:=rs) λx hx=>mz d x (h4 x (List.mem_cons_of_mem _ hx))
 have a4:rs.length*(bnd d+2)≤9*(bnd d+2):=Nat.mul_le_mul_right _ (by lia)
 lia
theorem uq{d:Nat}{r:T}{rs:List T}(h5:d≤5)(h3:rs.length+1≤10)(h4:∀x∈r::rs,IsR d x):cT ", " (.lst ((r::rs).map λx=>T.str (tx d x)))=some (.str (inn d r rs)):=by
 show(fY ((r::rs).map λx=>T.str (tx d x))).bind (λys=>if JoinOk ", " ys=true then some (T.str (Txt.join ", " ys)) else none)=_
 have e1:fY ((r::rs).map λx=>T.str (tx d x))=some ((r::rs).map (tx d)):=by
  rw[← jM,List.map_map];rfl
 have a0:=we d h5
 have e2:JoinOk ", " ((r::rs).map (tx d))=true:=by
  refine xq (n:=400000) ?_ ?_
  ·intro w hw
   obtain⟨x,hx,rfl⟩:=List.mem_map.mp hw
   rw[wj]
   exact Nat.le_trans (mz d x (h4 x hx)) a0
  ·rw[List.length_map,List.length_cons,show(", ":Str).length=2 by decide +kernel,szL]
   have:(rs.length+1)*(400000+2)≤10*(400000+2):=Nat.mul_le_mul_right _ h3
   lia
 rw[e1,Option.bind_some,if_pos e2]
theorem D3{d:Nat}{k:Int}{r:T}{rs:List T}:tx (d+1) (som k (r::rs))=bg k (rs.length+1)++inn d r rs++")":=by
 apply cz
 rw[um,eZ,jY,jY,D2,show tl (")":Str)=[41] by decide +kernel]
 simp
theorem add_str{x y:Str}{z:Str}(h:x.length+y.length≤szL)(e:x++y=z):av (.str x) (.str y)=some (.str z):=by rw[ee _ _ h,e]
theorem oq{k m:Int}(h1:1≤k)(h2:k≤m)(h3:m≤10):(bg k m).length≤6:=(dY _ (head_mem h1 h2 h3)).2
theorem ur{g:Str->T->Option T}{a b:D}{e:Slots}{μ:aa}{s:Str}{t u:T}(ha:a e μ=.ok (.val (.str s)) μ)(hb:b e μ=.ok (.val t) μ)(hg:g s t=some u):bw g a b e μ=.ok (.val u) μ:=by
 rw[fk,ha,R.aQ,aV,R.bf,R.aQ,hb,R.aQ,Bm,Option.bind_some,hg];rfl
def mB(fq:FN):DS :=
 (aq (sIf (ah fEq (aF (ae 0) (dC (.int 0))) (dC (.str "hand"))) (aK (aF (dC (.str "abcdefghij")) (aF (ae 0) (dC (.int 1))))) a6)
 (aq (az 1 (bw cT (dC (.str ", ")) (dj (fB (aF (ae 0) (dC (.int 2)))) [none] (aS 0) (dC (.bl true)) (ax (cal fq) [(ae 0)]))))
 (aq (sIf (ah fEq (aF (ae 0) (dC (.int 1))) (cC (aF (ae 0) (dC (.int 2))))) (aK (ah av (ah av (dC (.str "all (")) (ae 1)) (dC (.str ")")))) a6)
 (aq (sIf (ah fEq (aF (ae 0) (dC (.int 1))) (dC (.int 1))) (aK (ah av (ah av (dC (.str "one (")) (ae 1)) (dC (.str ")")))) a6)
 (aK (ah av (ah av (ah av (dUn yQ (aF (ae 0) (dC (.int 1)))) (dC (.str " of ("))) (ae 1)) (dC (.str ")"))))))))
theorem uu{F:FN}{d:Nat}{k:Int}{r:T}{rs:List T}(μ:aa)(x1:Option SV)(h3:rs.length+1≤10)(hF:∀x∈r::rs,F [.val x] μ=.ok (.val (.str (tx d x))) μ) :
  dj (fB (aF (ae 0) (dC (.int 2)))) [none] (aS 0) (dC (.bl true)) (ax (cal F) [(ae 0)]) [some (.val (som k (r::rs))),x1] μ=.ok (.val (.lst ((r::rs).map λx=>T.str (tx d x)))) μ:=by
 have hc:=λ(same:aa->Prop) (hs':same μ)=>pK (same:=same) (b:=aS 0) (d:=ax (cal F) [(ae 0)]) (e:=[none]) (μ:=μ) (id:T->T) (λx=>.str (tx d x)) hs' (r::rs) λx hx=>by
  refine⟨_,rfl,?_⟩
  simp?! only[hF x hx,id]
 rw[List.map_id] at hc
 simp?! only[]
 rw[hc]
 ·rw[R.iZ,R.aQ,if_pos (by simp[szL];lia)]
  rfl
 ·trivial
theorem D4{F:Nat->FN}(hF:∀n,F (n+1)=fnV 2 (mB (F n))):∀(d n:Nat) (t:T),IsR d t->d≤n->d≤5->∀(μ:aa),F (n+1) [.val t] μ=.ok (.val (.str (tx d t))) μ:=by
 intro d
 induction d with
 | zero =>
  rintro n t ⟨h,h0,h1,rfl⟩ hn h5 μ
  rw[hF,rH]
  unfold mB
  simp?! only[dJ,xv h0 h1]
 | succ d ih =>
  rintro n t ht hn h5 μ
  obtain⟨m,rfl⟩:∃m,n=m+1:=⟨n-1,by lia⟩
  rcases ht with ⟨h,h0,h1,rfl⟩|⟨k,r,rs,rfl,h1,h2,h3,h4⟩
  ·rw[hF,rH]
   unfold mB
   simp?! only[dJ,xv h0 h1]
  ·have e1:=ur (g:=cT) (a:=dC (.str ", ")) rfl (uu (F:=F (m+1)) (d:=d) (k:=k) μ none h3 λx hx=>ih m x (h4 x hx) (by lia) (by lia) μ) (uq (by lia) h3 h4)
   have hi:=xw (d:=d) (by lia) h3 h4
   have hh:=oq (m:=(rs.length:Int)+1) h1 h2 (by lia)
   rw[hF,D3]
   generalize inn d r rs=w at e1 hi
   unfold mB
   have l1:(")":Str).length=1:=by decide +kernel
   unfold bg at hh ⊢
   by_cases c1:k=(rs.length:Int)+1
   ·have c1':(k==(rs.length:Int)+1)=true:=by rw[beq_iff_eq];exact c1
    rw[if_pos c1] at hh ⊢
    have a1:av (.str "all (") (.str w)=some (.str ("all ("++w)):=ee _ _ (by rw[szL];lia)
    have a2:av (.str ("all ("++w)) (.str ")")=some (.str ("all ("++w++")")):=ee _ _ (by rw[Str.length_append,szL];lia)
    simp?! only[kO,e1,Int.natCast_add,Int.natCast_one,c1',a1,a2]
   ·have c1':(k==(rs.length:Int)+1)=false:=by rw[beq_eq_false_iff_ne];exact c1
    rw[if_neg c1] at hh ⊢
    by_cases c2:k=1
    ·have c2':(k==(1:Int))=true:=by rw[beq_iff_eq];exact c2
     rw[if_pos c2] at hh ⊢
     have a1:av (.str "one (") (.str w)=some (.str ("one ("++w)):=ee _ _ (by rw[szL];lia)
     have a2:av (.str ("one ("++w)) (.str ")")=some (.str ("one ("++w++")")):=ee _ _ (by rw[Str.length_append,szL];lia)
     simp?! only[kO,e1,Int.natCast_add,Int.natCast_one,c1',c2',a1,a2]
    ·have c2':(k==(1:Int))=false:=by rw[beq_eq_false_iff_ne];exact c2
     rw[if_neg c2] at hh ⊢
     rw[Str.length_append] at hh
     have a0:yQ (.int k)=some (.str (toString k)):=if_pos (by
      have:k.natAbs.log2<4:=Nat.log2_lt (by lia) |>.mpr (by lia)
      lia)
     have a1:av (.str (toString k)) (.str " of (")=some (.str (toString k++" of (")):=ee _ _ (by rw[szL];lia)
     have a2:av (.str (toString k++" of (")) (.str w)=some (.str (toString k++" of ("++w)):=ee _ _ (by rw[Str.length_append,szL];lia)
     have a3:av (.str (toString k++" of ("++w)) (.str ")")=some (.str (toString k++" of ("++w++")")):=ee _ _ (by rw[Str.length_append,Str.length_append,szL];lia)
     simp?! only[kO,e1,Int.natCast_add,Int.natCast_one,c1',c2',a0,a1,a2,a3]
def rJ(cH:FN):D:=(ax (cal cH) [(ae 1),(ae 2),(ah k_ (ae 3) (dC (.int 1)))])
def je(cH:FN):DS :=
 (aq (az 3 (aF (ae 0) (ah bp (aF (ae 1) (dC (.int 0))) (cC (ae 0)))))
 (aq (gh 1 (dC (.int 0)) (ah av (aF (ae 1) (dC (.int 0))) (dC (.int 1))))
 (aq (sIf (dOr (ah fEq (ae 2) (dC (.int 0))) (dOr (ah fLt (aF (ae 1) (dC (.int 1))) (dC (.int 1))) (ah fEq (ah bp (ae 3) (dC (.int 4))) (dC (.int 0))))) (aK (eP [(dC (.str "hand")),(ah bp (ah cB (ae 3) (dC (.int 4))) (dC (.int 10)))])) a6)
 (aq (az 4 (ah av (dC (.int 1)) (ah Ge (aF (ae 1) (dC (.int 1))) (ah bp (ah cB (ae 3) (dC (.int 40))) (dC (.int 10))))))
 (aq (gh 1 (dC (.int 1)) (ah av (ah k_ (aF (ae 1) (dC (.int 1))) (ae 4)) (dC (.int 1))))
 (aq (az 5 (ah av (dC (.int 1)) (ah bp (ah cB (ae 3) (dC (.int 400))) (ae 4))))
 (aK (eP [(dC (.str "some")),(ae 5),(dUn jF (dj (cY (ae 4)) [none,some 0,some 1,some 2] (aS 0) (dC (.bl true)) (rJ cH)))]))))))))
abbrev stt(μ:aa)(a b:Int):aa:=μ++[(true,.lst [.int a,.int b])]
theorem rK(μ:aa)(a b:Int)(u:T):iy (stt μ a b) (.cel μ.length) u=(sG (.lst [.int a,.int b]) u).map SV.val:=by
 rw[sH,qD,qC];rfl
theorem kQ(μ:aa)(a b x:Int):setAt (.cel μ.length) (.int 0) (.int x) (stt μ a b)=some (stt μ x b):=by
 rw[sW (ts:=[.int a,.int b]) (by simp) (by lia) (by simp)];simp
theorem D5(μ:aa)(a b x:Int):setAt (.cel μ.length) (.int 1) (.int x) (stt μ a b)=some (stt μ a x):=by
 rw[sW (ts:=[.int a,.int b]) (by simp) (by lia) (by simp)];simp
theorem kR(μ:aa)(a b a' b':Int):List.take (List.length (stt μ a b)) (stt μ a' b')=stt μ a' b':=List.take_of_length_le (by simp)
theorem ot{G:FN}{d:Nat}{μ:aa}{row:SV}
  (hG:∀a b:Int,0≤a->0≤b->b≤19->∃t a' b',IsR d t/\0≤a'/\0≤b'/\b'≤b/\((hwd d t).length:Int)=1+b-b'/\G [row,.cel μ.length,.val (.int d)] (stt μ a b)=.ok (.val t) (stt μ a' b')) :
  ∀(ts:List T) (a b:Int),0≤a->0≤b->b≤19->∃us a' b',us.length=ts.length/\(∀u∈us,IsR d u)/\0≤a'/\0≤b'/\b'≤b/\((us.flatMap (hwd d)).length:Int)=us.length+b-b' /\
   dy (λ_=>True) (aS 0) (dC (.bl true)) (rJ G) [none,some row,some (.cel μ.length),some (.val (.int ((d:Int)+1)))] ts (stt μ a b)=.ok us (stt μ a' b')
 | [],a,b,ha,hb,hb2=>⟨[],a,b,rfl,by simp,ha,hb,by lia,by simp,by unfold dy;rw[if_pos trivial]⟩
 | t::ts,a,b,ha,hb,hb2=>by
  obtain⟨u,a1,b1,h1,h2,h3,h4,h5,h6⟩:=hG a b ha hb hb2
  obtain⟨us,a2,b2,g1,g2,g3,g4,g5,g6,g7⟩:=ot hG ts a1 b1 h2 h3 (by lia)
  refine⟨u::us,a2,b2,by simp[g1],?_,g3,g4,by lia,?_,?_⟩
  ·intro x hx
   rcases List.mem_cons.mp hx with rfl|hx
   ·exact h1
   ·exact g2 x hx
  ·rw[List.flatMap_cons,List.length_append,List.length_cons]
   lia
  ·have e0:(d:Int)+1-1=d:=by lia
   have hd:rJ G [some (.val t),some row,some (.cel μ.length),some (.val (.int ((d:Int)+1)))] (stt μ a b)=.ok (.val u) (stt μ a1 b1):=by
    unfold rJ
    simp?! only[e0,h6]
   unfold dy
   rw[if_pos trivial]
   simp only[eg,List.set_cons_succ,List.set_cons_zero,sA,R.iZ,R.aQ,du,R.bf,if_true,hd,wR,g7]
theorem D6{F:Nat->FN}(hF:∀n,F (n+1)=fnV 6 (je (F n))){r:List Int}(hr:Rw 4000 24 r)(μ:aa):∀(d n:Nat),d≤n->∀a b:Int,0≤a->0≤b->b≤19 ->
  ∃t a' b',IsR d t/\0≤a'/\0≤b'/\b'≤b/\((hwd d t).length:Int)=1+b-b'/\F (n+1) [.val (li r),.cel μ.length,.val (.int d)] (stt μ a b)=.ok (.val t) (stt μ a' b'):=by
 intro d
 induction d with
 | zero =>
  intro n hn a b ha hb hb2
  have l1:=hr.len
  have p0:0≤a%24:=Int.emod_nonneg _ (by lia)
  have p1:a%24<r.length:=by have:=Int.emod_lt_of_pos a (show(0:Int)<24 by lia);lia
  have e1:=kj (f:=T.int) p0 p1
  generalize r[(a%24).toNat]'(by lia)=one at e1
  refine⟨hnd (one / 4%10),a+1,b,⟨_,Int.emod_nonneg _ (by lia),Int.emod_lt_of_pos _ (by lia),rfl⟩,by lia,hb,by lia,by rw[h_,List.length_singleton];lia,?_⟩
  rw[hF]
  unfold je
  have l2:((r.map T.int).length:Int)=24:=by rw[List.length_map,l1];rfl
  simp?! only[rK,ix,l2,e1,kQ,Int.natCast_zero,kR]
 | succ d ih =>
  intro n hn a b ha hb hb2
  obtain⟨m,rfl⟩:∃m,n=m+1:=⟨n-1,by lia⟩
  have l1:=hr.len
  have p0:0≤a%24:=Int.emod_nonneg _ (by lia)
  have p1:a%24<r.length:=by have:=Int.emod_lt_of_pos a (show(0:Int)<24 by lia);lia
  have e1:=kj (f:=T.int) p0 p1
  generalize r[(a%24).toNat]'(by lia)=one at e1
  have l2:((r.map T.int).length:Int)=24:=by rw[List.length_map,l1];rfl
  have d0:(((d:Int)+1)==0)=false:=by rw[beq_eq_false_iff_ne];lia
  by_cases c1:b<1
  ·refine⟨hnd (one / 4%10),a+1,b,.inl ⟨_,Int.emod_nonneg _ (by lia),Int.emod_lt_of_pos _ (by lia),rfl⟩,by lia,hb,by lia,by rw[h_,List.length_singleton];lia,?_⟩
   rw[hF]
   unfold je
   have c1':decide (b<1)=true:=decide_eq_true c1
   simp?! only[rK,ix,l2,e1,kQ,Int.natCast_add,Int.natCast_one,d0,c1',kR]
  ·have c1':decide (b<1)=false:=decide_eq_false c1
   by_cases c2:one%4=0
   ·refine⟨hnd (one / 4%10),a+1,b,.inl ⟨_,Int.emod_nonneg _ (by lia),Int.emod_lt_of_pos _ (by lia),rfl⟩,by lia,hb,by lia,by rw[h_,List.length_singleton];lia,?_⟩
    rw[hF]
    unfold je
    have c2':(one%4==0)=true:=by rw[beq_iff_eq];exact c2
    simp?! only[rK,ix,l2,e1,kQ,Int.natCast_add,Int.natCast_one,d0,c1',c2',kR]
   ·have c2':(one%4==0)=false:=by rw[beq_eq_false_iff_ne];exact c2
    have q0:0≤one / 40%10:=Int.emod_nonneg _ (by lia)
    have q1:one / 40%10<10:=Int.emod_lt_of_pos _ (by lia)
    obtain⟨mn,hmn⟩:∃mn:Int,(if one / 40%10<b then one / 40%10 else b)=mn:=⟨_,rfl⟩
    have mb:0≤mn/\mn≤9/\mn≤b:=by split at hmn<;>lia
    have rn:dw (1+mn)=true:=gi (by lia) (by lia)
    obtain⟨us,a',b',g1,g2,g3,g4,g5,g6,g7⟩:=ot (G:=F (m+1)) (row:=.val (li r)) (d:=d) (μ:=μ) (ih m (by lia)) (cj 0 (1+mn).toNat) (a+1) (b-(1+mn)+1) (by lia) (by lia) (by lia)
    have g1:us.length=(1+mn).toNat:=by rw[g1,gm];simp
    have k0:0≤one / 400%(1+mn):=Int.emod_nonneg _ (by lia)
    have k1:one / 400%(1+mn)<1+mn:=Int.emod_lt_of_pos _ (by lia)
    have hl:(cj 0 (1+mn).toNat).length≤szL:=by rw[gm];simp[szL];lia
    have hm:bp (.int (one / 400)) (.int (1+mn))=some (.int (one / 400%(1+mn))):=kb _ _ (by lia)
    refine⟨som (1+one / 400%(1+mn)) us,a',b',?_,g3,g4,by lia,by rw[rG];lia,?_⟩
    ·cases us with
     | nil=>simp at g1;lia
     | cons u us=>exact .inr ⟨_,u,us,rfl,by lia,by simp at g1;lia,by simp at g1;lia,g2⟩
    ·rw[hF]
     unfold je
     simp?! only[rK,ix,l2,e1,kQ,D5,Int.natCast_add,Int.natCast_one,d0,c1',c2',B7,hmn,hm,rn,g7,hl,kR]
def i8:DS :=
 (aq (sIf (ah fEq (ae 0) (ae 1)) (aK (dC (.str "all ("))) a6)
 (aq (sIf (ah fEq (ae 0) (dC (.int 1))) (aK (dC (.str "one ("))) a6)
 (aK (dFs [(dUn oU (ae 0)),(dC (.str " of ("))]))))
def b5:FN:=fnV 2 i8
theorem Ap{k:Int}(h1:1≤k)(h2:k≤10):k.natAbs.log2<1920:=by
 have:k.natAbs.log2<4:=Nat.log2_lt (by lia) |>.mpr (by lia)
 lia
theorem ou{k m:Int}(h1:1≤k)(h2:k≤m)(h3:m≤10)(μ:aa):b5 [.val (.int k),.val (.int m)] μ=.ok (.val (.str (bg k m))) μ:=by
 have hh:=oq h1 h2 h3
 unfold b5 i8
 unfold bg at hh ⊢
 by_cases c1:k=m
 ·have c1':(k==m)=true:=by rw[beq_iff_eq];exact c1
  rw[if_pos c1]
  simp?! only[c1']
 ·have c1':(k==m)=false:=by rw[beq_eq_false_iff_ne];exact c1
  rw[if_neg c1] at hh ⊢
  by_cases c2:k=1
  ·have c2':(k==(1:Int))=true:=by rw[beq_iff_eq];exact c2
   rw[if_pos c2]
   simp?! only[c1',c2']
  ·have c2':(k==(1:Int))=false:=by rw[beq_eq_false_iff_ne];exact c2
   rw[if_neg c2] at hh ⊢
   have a0:oU (.int k)=some (.str (toString k)):=if_pos (Ap h1 (by lia))
   have z1:(toString k:Str).length≤szL:=by rw[Str.length_append] at hh;rw[szL];lia
   have z2:((toString k:Str)++" of (").length≤szL:=by rw[szL];lia
   simp?! only[c1',c2',CM,iM,nA,aV,a0,Str.empty_append,z1,z2]
theorem pW{f:T->List Nat}{rs:List T}{post:List Nat}:((rs.flatMap λx=>44::32::f x)++41::post).head?≠some 108:=by
 cases rs with
 | nil=>simp
 | cons r rs=>simp
def dm(fm:FN):DS :=
 (aq (sIf (ax (cal bN) [(ae 0)]) (aK (aF (dC (.str "abcdefghijklmnopqrstuvwxyz")) (aF (ae 0) (dC (.int 1))))) a6)
 (aq (az 1 (ax (cal b5) [(aF (ae 0) (dC (.int 1))),(cC (aF (ae 0) (dC (.int 2))))]))
 (aq (az 2 (bw cT (dC (.str ", ")) (dj (fB (aF (ae 0) (dC (.int 2)))) [none] (aS 0) (dC (.bl true)) (ax (cal fm) [(ae 0)]))))
 (aK (dFs [(dUn oU (ae 1)),(dUn oU (ae 2)),(dC (.str ")"))])))))
theorem Aq{F:FN}{d:Nat}{k:Int}{r:T}{rs:List T}(μ:aa)(x1 x2:Option SV)(h3:rs.length+1≤10)(hF:∀x∈r::rs,F [.val x] μ=.ok (.val (.str (tx d x))) μ) :
  dj (fB (aF (ae 0) (dC (.int 2)))) [none] (aS 0) (dC (.bl true)) (ax (cal F) [(ae 0)]) [some (.val (som k (r::rs))),x1,x2] μ=.ok (.val (.lst ((r::rs).map λx=>T.str (tx d x)))) μ:=uu (k:=k) μ x1 h3 hF
theorem G1{F:Nat->FN}(hF:∀n,F (n+1)=fnV 3 (dm (F n))):∀(d n:Nat) (t:T),IsR d t->d≤n->d≤5->∀(μ:aa),F (n+1) [.val t] μ=.ok (.val (.str (tx d t))) μ:=by
 intro d
 induction d with
 | zero =>
  rintro n t ⟨h,h0,h1,rfl⟩ hn h5 μ
  rw[hF,rH]
  unfold dm
  simp?! only[kP,dJ,uo h0 h1]
 | succ d ih =>
  rintro n t ht hn h5 μ
  obtain⟨m,rfl⟩:∃m,n=m+1:=⟨n-1,by lia⟩
  rcases ht with ⟨h,h0,h1,rfl⟩|⟨k,r,rs,rfl,h1,h2,h3,h4⟩
  ·rw[hF,rH]
   unfold dm
   simp?! only[kP,dJ,uo h0 h1]
  ·have eh:=ou (m:=(rs.length:Int)+1) h1 h2 (by lia) μ
   have e1:=ur (g:=cT) (a:=dC (.str ", ")) rfl (Aq (F:=F (m+1)) (d:=d) (k:=k) μ (some (.val (.str (bg k (rs.length+1))))) none h3 λx hx=>ih m x (h4 x hx) (by lia) (by lia) μ) (uq (by lia) h3 h4)
   have hi:=xw (d:=d) (by lia) h3 h4
   have hh:=oq (m:=(rs.length:Int)+1) h1 h2 (by lia)
   rw[hF,D3]
   generalize inn d r rs=w at e1 hi
   generalize bg k (rs.length+1)=hd at eh e1 hh
   have l1:(")":Str).length=1:=by decide +kernel
   have a0:oU (.str hd)=some (.str hd):=if_pos (by rw[szL];lia)
   have a1:oU (.str w)=some (.str w):=if_pos (by rw[szL];lia)
   have z0:hd.length≤szL:=by rw[szL];lia
   have z1:(hd++w).length≤szL:=by rw[Str.length_append,szL];lia
   have z2:(hd++w++")").length≤szL:=by rw[Str.length_append,Str.length_append,szL];lia
   unfold dm
   simp?! only[xt,Int.natCast_add,Int.natCast_one,eh,e1,CM,iM,nA,aV,a0,a1,Str.empty_append,z0,z1,z2]
end Fw.U
namespace Fw.U
open PySem Fw
theorem D7(x y:Str):Txt.split x y≠[]:=by
 unfold Txt.split
 split
 ·simp
 ·split
  ·simp
  ·rw[StrLaws.partsBetween_eq]
   obtain⟨p,r,e⟩:=StrLaws.partsFrom_ne x y.length 0 (Builtin.Str.occurrences x y 0 x.length (x.length+1))
   rw[e];simp
theorem G2(sep:Str)(ws:List Str):Txt.join sep ws=Str.join sep ws:=StrLaws.glued_eq_join sep ws
def fs(sep:Str)(ws:List Str):List Nat:=ws.flatMap λx=>tl sep++tl x
theorem mC(sep w:Str)(ws:List Str):fs sep (w::ws)=tl sep++(tl w++fs sep ws):=by simp[fs]
theorem D8(sep w:Str)(ws:List Str):tl (Txt.join sep (w::ws))=tl w++fs sep ws:=rB sep ws w
theorem iV(t sep:Str):∃p ps,Txt.split t sep=p::ps/\tl t=tl p++fs sep ps:=by
 cases e:Txt.split t sep with
 | nil=>exact absurd e (D7 t sep)
 | cons p ps =>
  refine⟨p,ps,rfl,?_⟩
  have:=StrLaws.join_split t sep
  rw[e,← G2] at this
  rw[← D8,this]
theorem D9{sep:Str}(h:1≤sep.length):∀(ws:List Str),ws.length≤(fs sep ws).length
 | []=>Nat.le_refl _
 | w::ws=>by
  rw[mC]
  have:=D9 h ws
  rw[ay] at h
  simp only[List.length_cons,List.length_append]
  lia
theorem Kb{sep:Str}{ws:List Str}{w:Str}(h:w∈ws):∀c∈tl w,c∈fs sep ws:=λc hc=>List.mem_flatMap.mpr ⟨w,h,List.mem_append_right _ hc⟩
theorem xx{sep:Str}:∀{ws:List Str}{w:Str},w∈ws->(tl w).length≤(fs sep ws).length
 | v::ws,w,h=>by
  rw[mC]
  simp only[List.length_append]
  rcases List.mem_cons.mp h with rfl|h
  ·lia
  ·have:=xx (sep:=sep) h
   lia
theorem wk{sep:Str}(h:1≤sep.length)(t:Str):(Txt.split t sep).length≤t.length+1:=by
 obtain⟨p,ps,e,e2⟩:=iV t sep
 rw[e,ay,e2]
 have:=D9 h ps
 simp only[List.length_cons,List.length_append]
 lia
theorem uv{t sep w:Str}(h:w∈Txt.split t sep):w.length≤t.length/\∀c∈tl w,c∈tl t:=by
 obtain⟨p,ps,e,e2⟩:=iV t sep
 rw[e] at h
 rw[ay,ay,e2]
 rcases List.mem_cons.mp h with rfl|h
 ·exact⟨by rw[List.length_append];lia,λc hc=>List.mem_append_left _ hc⟩
 ·exact⟨by rw[List.length_append];have:=xx (sep:=sep) h;lia,λc hc=>List.mem_append_right _ (Kb h c hc)⟩
def cm:Str:=", "
theorem kS:tl cm=[44,32]:=by decide +kernel
theorem ia:cm.length=2:=by decide +kernel
theorem HY{x:Str}{k:Nat}(h:StrLaws.At x cm x.length k):(tl x)[k]?=some 44:=by
 have h2:=h.2
 rw[StrLaws.subAt_eq] at h2
 have h3:((tl x).drop k).take cm.length=tl cm:=by simpa using h2
 rw[ia,kS] at h3
 have this:(((tl x).drop k).take 2)[0]?=([44,32]:List Nat)[0]?:=by rw[h3]
 rw[List.getElem?_take_of_lt (by lia),List.getElem?_drop] at this
 simpa using this
theorem D_{x:Str}{k:Nat}{r:List Nat}(h:(tl x).drop k=44::32::r):StrLaws.At x cm x.length k:=by
 have hl:=congrArg List.length h
 rw[List.length_drop] at hl
 simp only[List.length_cons] at hl
 refine⟨by rw[ia,ay];lia,?_⟩
 rw[StrLaws.subAt_eq]
 have e:x.cps.toList.drop k=44::32::r:=h
 rw[e,ia]
 show(([44,32]:List Nat)==tl cm)=true
 rw[kS];rfl
theorem Ea{x:Str}{a b:Nat}{w:Str}{r:List Nat}(h:(tl x).drop a=tl w++r)(hb:b=a+w.length):Builtin.Str.strSub x a b=w:=by
 apply cz
 show(Builtin.Str.strSub x a b).cps.toList=_
 rw[StrLaws.strSub_toList]
 have e:x.cps.toList.drop a=tl w++r:=h
 rw[e,hb,Nat.add_sub_cancel_left,ay,List.take_left]
theorem uw(x:Str):∀(ws:List Str) (w:Str) (Ar:List Nat) (a f:Nat),(∀v∈w::ws,44∉tl v)->(tl x).drop a=tl w++fs cm ws->StrLaws.ChainG x cm x.length a Ar f->(∀k,f≤k->¬ StrLaws.At x cm x.length k)->StrLaws.partsFrom x cm.length a Ar=w::ws
 | [],w,Ar,a,f,hw,hd,hG,hn=>by
  have none:∀k,a≤k->¬ StrLaws.At x cm x.length k:=λk hk hA=>by
   have:=HY hA
   have e:((tl x).drop a)[k-a]?=some 44:=by rw[List.getElem?_drop,show a+(k-a)=k by lia];exact this
   rw[hd] at e
   have:=List.mem_of_getElem? e
   rw[show fs cm []=[] from rfl,List.append_nil] at this
   exact hw w List.mem_cons_self this
  cases Ar with
  | nil =>
   show [Builtin.Str.strSub x a x.length]=[w]
   have hl:=congrArg List.length hd
   rw[List.length_drop,show fs cm []=[] from rfl,List.append_nil,← ay,← ay] at hl
   by_cases z:a≤x.length
   ·rw[Ea hd (by lia)]
   ·have:w="":=by
     apply cz
     apply List.eq_nil_of_length_eq_zero
     rw[← ay];lia
    subst this
    congr 1
    apply cz
    show(Builtin.Str.strSub x a x.length).cps.toList=_
    rw[StrLaws.strSub_toList,show x.length-a=0 by lia]
    rfl
  | cons c r=>exact absurd hG.2.1 (none c hG.1)
 | v::vs,w,Ar,a,f,hw,hd,hG,hn=>by
  rw[mC,kS] at hd
  have hA:StrLaws.At x cm x.length (a+w.length):=D_ (r:=tl v++fs cm vs) (by
   rw[← List.drop_drop,hd,ay,List.drop_left];rfl)
  have before:∀k,a≤k->k<a+w.length->¬ StrLaws.At x cm x.length k:=λk h1 h2 hA=>by
   have:=HY hA
   have e:((tl x).drop a)[k-a]?=some 44:=by rw[List.getElem?_drop,show a+(k-a)=k by lia];exact this
   rw[hd,List.getElem?_append_left (by rw[← ay];lia)] at e
   exact hw w List.mem_cons_self (List.mem_of_getElem? e)
  cases Ar with
  | nil =>
   have e:f=a:=hG
   subst e
   exact absurd hA (hn _ (by lia))
  | cons c r =>
   have hc:c=a+w.length:=by
    rcases Nat.lt_trichotomy c (a+w.length) with q|q|q
    ·exact absurd hG.2.1 (before c hG.1 q)
    ·exact q
    ·exact absurd hA (hG.2.2.1 _ (by lia) q)
   show Builtin.Str.strSub x a c::StrLaws.partsFrom x cm.length (c+cm.length) r=_
   rw[Ea hd hc,uw x vs v r (c+cm.length) f (λy hy=>hw y (List.mem_cons_of_mem _ hy)) (by
    rw[hc,ia,← List.drop_drop,← List.drop_drop,hd,ay,List.drop_left];rfl) hG.2.2.2 hn]
theorem Eb{t:Str}{w:Str}{ws:List Str}(hw:∀v∈w::ws,44∉tl v)(h:tl t=tl w++fs cm ws):Txt.split t cm=w::ws:=by
 obtain⟨f,hG,hn⟩:=StrLaws.occ_tight t cm (by rw[ia];lia)
 have key:=uw t ws w _ 0 f hw (by rw[List.drop_zero];exact h) hG hn
 unfold Txt.split
 split
 ·rename_i hc
  rw[Bool.or_eq_true,decide_eq_true_eq,decide_eq_true_eq] at hc
  rcases hc with hc|hc
  ·rw[ia] at hc
   cases ws with
   | nil =>
    rw[show fs cm []=[] from rfl,List.append_nil] at h
    rw[cz h]
   | cons v vs =>
    rw[mC,kS] at h
    have:=congrArg List.length h
    rw[← ay] at this
    simp at this
    lia
  ·exfalso
   have:Builtin.Str.strKind cm=Builtin.Str.strKind "a":=by decide +kernel
   rw[this] at hc
   unfold Builtin.Str.strKind at hc
   have e:("a":Str).cps.all (·<256)=true:=by decide +kernel
   rw[if_pos e] at hc
   revert hc
   split
   ·simp
   ·split<;>simp
 ·split
  ·rename_i he
   have e0:Builtin.Str.occurrences t cm 0 t.length (t.length+1)=[]:=List.isEmpty_iff.mp he
   rw[e0] at key
   rw[← key]
   show [t]=[Builtin.Str.strSub t 0 t.length]
   rw[StrLaws.sub_whole]
  ·rw[StrLaws.partsBetween_eq]
   exact key
theorem ow(x:List Nat):∀(n a:Nat),a+n≤x.length->List.filterMap (λi=>x[i]?) (List.range' a n)=(x.drop a).take n
 | 0,a,_=>by simp
 | n+1,a,h=>by
  have h1:x[a]?=some (x[a]'(by lia)):=List.getElem?_eq_getElem (by lia)
  rw[List.range'_succ,List.filterMap_cons,h1]
  show x[a]'(by lia)::List.filterMap (λi=>x[i]?) (List.range' (a+1) n)=_
  rw[ow x n (a+1) (by lia),List.drop_eq_getElem_cons (show a<x.length by lia),List.take_succ_cons]
end Fw.U
namespace Fw.U
open PySem Fw Builtin.Str
theorem ox(x:Str)(lo hi:Option Int)(st sp:Nat)(h:strSliceIndices lo hi 1 x.length=List.range' st (sp-st))(hs:sp≤x.length):tl (dS x lo hi)=((tl x).take sp).drop st:=by
 unfold dS
 rw[h,List.length_range',List.drop_take]
 have hl:=ay x
 by_cases c:sp-st=x.length
 ·rw[if_pos (by rw[beq_iff_eq];exact c)]
  by_cases z:st=0
  ·rw[z,List.drop_zero,List.take_of_length_le (by lia)]
  ·have:(tl x).length=0:=by lia
   rw[List.eq_nil_of_length_eq_zero this];simp
 ·rw[if_neg (by rw[beq_iff_eq];exact c)]
  show List.filterMap (λi=>x.cps[i]?) (List.range' st (sp-st))=_
  by_cases z:st≤sp
  ·have:=ow (tl x) (sp-st) st (by lia)
   rw[← this]
   congr 1
   funext i
   rw[← Array.getElem?_toList]
  ·rw[show sp-st=0 by lia];simp
theorem oy(st sp:Nat):sliceRange (st:Int) (sp:Int) 1=List.range' st (sp-st):=by
 unfold sliceRange
 simp only[show(1:Int) > 0 by lia,if_true]
 by_cases c:(st:Int)<sp
 ·rw[if_pos c,show((sp:Int)-st+1-1) / 1=((sp-st:Nat):Int) by lia,Int.toNat_natCast,List.range'_eq_map_range]
  apply List.map_congr_left
  intro k _
  show((st:Int)+1*(k:Int)).toNat=_
  lia
 ·rw[if_neg c,show sp-st=0 by lia];rfl
theorem rL(x:Str)(a b:Nat):tl (dS x (some (a:Int)) (some (b:Int)))=((tl x).take b).drop a:=by
 have hl:=ay x
 rw[ox x _ _ (min a x.length) (min b x.length) ?_ (Nat.min_le_right _ _)]
 ·by_cases c:b≤x.length
  ·rw[Nat.min_eq_left c]
   by_cases c2:a≤x.length
   ·rw[Nat.min_eq_left c2]
   ·rw[List.drop_of_length_le (by rw[List.length_take];lia),List.drop_of_length_le (by rw[List.length_take];lia)]
  ·rw[show min b x.length=x.length by lia,List.take_of_length_le (by lia),List.take_of_length_le (by lia)]
   by_cases c2:a≤x.length
   ·rw[Nat.min_eq_left c2]
   ·rw[List.drop_of_length_le (by lia),List.drop_of_length_le (by lia)]
 ·unfold strSliceIndices
  simp only[show(1:Int) > 0 by lia,if_true]
  rw[if_neg (by lia),if_neg (by lia),show max 0 (min (a:Int) (x.length:Int))=((min a x.length:Nat):Int) by lia,show max 0 (min (b:Int) (x.length:Int))=((min b x.length:Nat):Int) by lia,oy]
theorem xy(x:Str)(a:Nat):tl (dS x (some (a:Int)) none)=(tl x).drop a:=by
 have hl:=ay x
 rw[ox x _ _ (min a x.length) x.length ?_ (Nat.le_refl _)]
 ·rw[List.take_of_length_le (by lia)]
  by_cases c2:a≤x.length
  ·rw[Nat.min_eq_left c2]
  ·rw[List.drop_of_length_le (by lia),List.drop_of_length_le (by lia)]
 ·unfold strSliceIndices
  simp only[show(1:Int) > 0 by lia,if_true]
  rw[if_neg (by lia),show max 0 (min (a:Int) (x.length:Int))=((min a x.length:Nat):Int) by lia,oy]
theorem G3(x:Str)(b:Nat):tl (dS x none (some (b:Int)))=(tl x).take b:=by
 have hl:=ay x
 rw[ox x _ _ 0 (min b x.length) ?_ (Nat.min_le_right _ _)]
 ·rw[List.drop_zero]
  by_cases c:b≤x.length
  ·rw[Nat.min_eq_left c]
  ·rw[List.take_of_length_le (by lia),List.take_of_length_le (by lia)]
 ·unfold strSliceIndices
  simp only[show(1:Int) > 0 by lia,if_true]
  rw[if_neg (by lia),show max 0 (min (b:Int) (x.length:Int))=((min b x.length:Nat):Int) by lia]
  exact oy 0 _
theorem rM(x:Str)(lo hi:Option Int):(dS x lo hi).length≤x.length:=by
 unfold dS
 split
 ·exact Nat.le_refl _
 ·rw[ay]
  show(List.filterMap _ _).length≤_
  refine Nat.le_trans (List.length_filterMap_le _ _) ?_
  unfold strSliceIndices sliceRange
  simp only[show(1:Int) > 0 by lia,if_true]
  rw[List.length_map,List.length_range]
  have z:∀(a b:Int),0≤a->b≤x.length->(if a<b then (b-a+1-1) / 1 else 0).toNat≤x.length:=λa b h1 h2=>by
   split<;>lia
  cases lo with
  | none =>
   cases hi with
   | none=>exact z _ _ (by lia) (by lia)
   | some h=>exact z _ _ (by lia) (by show max 0 (min _ _)≤_;lia)
  | some l =>
   cases hi with
   | none=>exact z _ _ (by show 0≤max 0 (min _ _);lia) (by lia)
   | some h=>exact z _ _ (by show 0≤max 0 (min _ _);lia) (by show max 0 (min _ _)≤_;lia)
theorem fx{x:Str}{lo hi:Option Int}(h:x.length≤szL):iJ (.str x) lo hi=some (.str (dS x lo hi)):=if_pos (Nat.le_trans (rM x lo hi) h)
theorem at_of{x y:Str}{n i:Nat}(hn:n≤x.length):StrLaws.At x y n i↔∃a b,tl x=a++(tl y++b)/\a.length=i/\i+y.length≤n:=by
 unfold StrLaws.At
 rw[StrLaws.subAt_eq]
 constructor
 ·rintro⟨h1,h2⟩
  have h2:((tl x).drop i).take y.length=tl y:=by simpa using h2
  refine⟨(tl x).take i,(tl x).drop (i+y.length),?_,?_,h1⟩
  ·rw[← h2,← List.drop_drop,List.take_append_drop,List.take_append_drop]
  ·rw[List.length_take,← ay];lia
 ·rintro⟨a,b,h1,h2,h3⟩
  refine⟨h3,?_⟩
  have e:x.cps.toList.drop i=tl y++b:=by
   show(tl x).drop i=_
   rw[h1,← h2,List.drop_left]
  rw[e,ay y,List.take_left]
  simp
theorem rN(x y:Str)(n:Nat):(lastOccurrence x y 0 n=none/\∀i,¬ StrLaws.At x y n i)∨∃i,lastOccurrence x y 0 n=some i/\StrLaws.At x y n i/\∀k,i<k->¬ StrLaws.At x y n k:=by
 rw[StrLaws.last_eq]
 have key:=StrLaws.last_run x y n (List.range' 0 (n+1-0)) [] none (λ_ h=>nomatch h) (λ_ h=>nomatch h) (by simpa using List.pairwise_lt_range' (s:=0) (n:=n+1-0))
 have mem:∀i,StrLaws.At x y n i->i∈[]++List.range' 0 (n+1-0):=λi hi=>by have:=hi.1;simp[List.mem_range'];lia
 cases hr:(forIn (List.range' 0 (n+1-0)) none (StrLaws.lastBody x y n)).run with
 | none=>rw[hr] at key;exact .inl ⟨rfl,λi hi=>key i (mem i hi) hi⟩
 | some a=>rw[hr] at key;exact .inr ⟨a,rfl,key.1,λk hk hA=>key.2 k (mem k hA) hk hA⟩
theorem xA{x y:Str}{i n:Nat}(hn:n≤x.length)(h1:StrLaws.At x y n i)(h2:∀k,i<k->¬ StrLaws.At x y n k):rf4 x y 0 (n:Int)=(i:Int):=by
 unfold rf4
 rw[show(0:Int)=((0:Nat):Int) from rfl,eE,eE,Nat.min_eq_left hn]
 rcases rN x y n with ⟨_,z⟩|⟨j,e,z1,z2⟩
 ·exact absurd h1 (z i)
 ·rw[e]
  have:j=i:=by
   rcases Nat.lt_trichotomy j i with q|q|q
   ·exact absurd h1 (z2 i q)
   ·exact q
   ·exact absurd z1 (h2 j q)
  rw[this]
theorem G4{x y:Str}{n:Nat}(hn:n≤x.length)(h:∀k,¬ StrLaws.At x y n k):rf4 x y 0 (n:Int)=-1:=by
 unfold rf4
 rw[show(0:Int)=((0:Nat):Int) from rfl,eE,eE,Nat.min_eq_left hn]
 rcases rN x y n with ⟨e,_⟩|⟨j,e,z1,z2⟩
 ·rw[e]
 ·exact absurd z1 (h j)
theorem wm{x y:Str}{i:Nat}(h1:StrLaws.At x y x.length i)(h2:∀k,i<k->¬ StrLaws.At x y x.length k):Txt.rfind x y=(i:Int):=by
 unfold Txt.rfind
 rcases rN x y x.length with ⟨_,z⟩|⟨j,e,z1,z2⟩
 ·exact absurd h1 (z i)
 ·rw[e]
  have:j=i:=by
   rcases Nat.lt_trichotomy j i with q|q|q
   ·exact absurd h1 (z2 i q)
   ·exact q
   ·exact absurd z1 (h2 j q)
  rw[this]
theorem Ed{x:Str}{c n i:Nat}(hn:n≤x.length):StrLaws.At x ⟨#[c]⟩ n i↔(tl x)[i]?=some c/\i<n:=by
 rw[at_of hn]
 constructor
 ·rintro⟨a,b,h1,h2,h3⟩
  refine⟨?_,h3⟩
  rw[h1,← h2]
  simp[tl]
 ·rintro⟨h1,h2⟩
  obtain⟨hl,e⟩:=List.getElem?_eq_some_iff.mp h1
  refine⟨(tl x).take i,(tl x).drop (i+1),?_,by rw[List.length_take];lia,h2⟩
  show tl x=(tl x).take i++([c]++(tl x).drop (i+1))
  rw[← e,List.singleton_append,← List.drop_eq_getElem_cons hl,List.take_append_drop]
theorem jZ{l:List Nat}{c i:Nat}(h:c∉l):l[i]?≠some c:=λe=>h (List.mem_of_getElem? e)
theorem G5{x:Str}{c:Nat}{P R:List Nat}(h:tl x=P++c::R)(hR:c∉R):Txt.rfind x ⟨#[c]⟩=(P.length:Int):=by
 have hl:x.length=P.length+(R.length+1):=by rw[ay,h];simp
 refine wm ((Ed (Nat.le_refl _)).mpr ⟨by rw[h];simp,by lia⟩) λk hk z=>?_
 have:=((Ed (Nat.le_refl _)).mp z).1
 rw[h,List.getElem?_append_right (by lia),show k-P.length=(k-P.length-1)+1 by lia,List.getElem?_cons_succ] at this
 exact jZ hR this
theorem HZ{x:Str}{c:Nat}{z v Q:List Nat}(h:tl x=(z++c::v)++Q)(hv:c∉v):rf4 x ⟨#[c]⟩ 0 ((z++c::v).length:Int)=(z.length:Int):=by
 have hl:x.length=z.length+(v.length+1)+Q.length:=by rw[ay,h];simp;lia
 have hp:(z++c::v).length=z.length+(v.length+1):=by simp
 have hn:(z++c::v).length≤x.length:=by lia
 refine xA hn ((Ed hn).mpr ⟨by rw[h,List.append_assoc];simp,by lia⟩) λk hk q=>?_
 obtain⟨q1,q2⟩:=(Ed hn).mp q
 rw[h,List.getElem?_append_left q2,List.getElem?_append_right (by lia),show k-z.length=(k-z.length-1)+1 by lia,List.getElem?_cons_succ] at q1
 exact jZ hv q1
theorem Ee{x:Str}{c:Nat}{P Q:List Nat}(h:tl x=P++Q)(hP:c∉P):rf4 x ⟨#[c]⟩ 0 (P.length:Int)=-1:=by
 have hn:P.length≤x.length:=by rw[ay,h];simp
 refine G4 hn λk q=>?_
 obtain⟨q1,q2⟩:=(Ed hn).mp q
 rw[h,List.getElem?_append_left q2] at q1
 exact jZ hP q1
def oA(v:List Nat):Prop:=∀a b,v≠a++44::32::b
theorem G6{x:Str}{z v Q:List Nat}(h:tl x=(z++44::32::v)++Q)(hv:oA v):rf4 x cm 0 ((z++44::32::v).length:Int)=(z.length:Int):=by
 have hl:x.length=z.length+(v.length+2)+Q.length:=by rw[ay,h];simp;lia
 have hp:(z++44::32::v).length=z.length+(v.length+2):=by simp
 have hn:(z++44::32::v).length≤x.length:=by lia
 refine xA hn ((at_of hn).mpr ⟨z,v++Q,by rw[h,kS];simp,rfl,by rw[ia];lia⟩) λk hk q=>?_
 obtain⟨a,b,e1,e2,e3⟩:=(at_of hn).mp q
 rw[ia] at e3
 rw[kS,h] at e1
 have:∃a',a=z++a':=by
  have:z <+: a:=List.prefix_of_prefix_length_le (l₃:=(z++44::32::v)++Q) ⟨44::32::v++Q,by simp⟩ (by rw[e1];exact⟨_,rfl⟩) (by lia)
  obtain⟨a',e⟩:=this
  exact⟨a',e.symm⟩
 obtain⟨a',rfl⟩:=this
 rw[List.append_assoc,List.append_assoc,List.append_cancel_left_eq] at e1
 simp at e2
 cases a' with
 | nil=>simp at e2;lia
 | cons p a' =>
  cases a' with
  | nil=>simp at e1
  | cons p2 a' =>
   simp only[List.cons_append,List.cons.injEq] at e1
   have e1:=e1.2.2
   simp at e2
   rcases List.append_eq_append_iff.mp e1 with ⟨a2,r1,r2⟩|⟨a2,r1,r2⟩
   ·have:=congrArg List.length r1
    simp at this
    lia
   ·have hl2:=congrArg List.length r1
    rw[List.length_append] at hl2
    cases a2 with
    | nil=>simp at hl2;lia
    | cons q1 a2 =>
     cases a2 with
     | nil=>simp at hl2;lia
     | cons q2 a2 =>
      simp only[List.cons_append,List.nil_append,List.cons.injEq] at r2
      obtain⟨rfl,rfl,_⟩:=r2
      exact hv _ _ r1
theorem xB(x y:Str):(!(occurrences x y 0 x.length 1).isEmpty)=true↔∃a b,tl x=a++(tl y++b):=by
 rw[StrLaws.found_iff]
 constructor
 ·rintro⟨i,h⟩
  obtain⟨a,b,e,_⟩:=(at_of (Nat.le_refl _)).mp h
  exact⟨a,b,e⟩
 ·rintro⟨a,b,e⟩
  refine⟨a.length,(at_of (Nat.le_refl _)).mpr ⟨a,b,e,rfl,?_⟩⟩
  rw[ay x,e,ay y]
  simp
theorem oB(x:Str)(c:Nat):(!(occurrences x ⟨#[c]⟩ 0 x.length 1).isEmpty)=decide (c∈tl x):=by
 rw[Bool.eq_iff_iff,xB,decide_eq_true_iff]
 constructor
 ·rintro⟨a,b,e⟩
  rw[e]
  simp[tl]
 ·intro h
  obtain⟨a,b,e⟩:=List.append_of_mem h
  exact⟨a,b,e⟩
theorem xC(x:Str):(!(occurrences x cm 0 x.length 1).isEmpty)=true↔¬ oA (tl x):=by
 rw[xB,kS]
 constructor
 ·rintro⟨a,b,e⟩ h
  exact h a b e
 ·intro h
  refine Classical.byContradiction λq=>h λa b e=>q ⟨a,b,e⟩
theorem xD{x:Str}{c:Nat}{A I post:List Nat}(h:tl x=A++(I++c::post))(hI:c∉I):Txt.find3 x ⟨#[c]⟩ (A.length:Int)=((A.length+I.length:Nat):Int):=by
 have hl:x.length=A.length+(I.length+(post.length+1)):=by rw[ay,h];simp
 have gd:∀v,x.cps.getD v 0=(tl x).getD v 0:=λv=>by simp[tl,List.getD_eq_getElem?_getD]
 have here:(tl x).getD (A.length+I.length) 0=c:=by
  rw[h,List.getD_eq_getElem?_getD,List.getElem?_append_right (by lia),List.getElem?_append_right (by lia)]
  simp
 rcases StrLaws.find3_spec x c (A.length:Int) with ⟨e,z⟩|⟨k,e,z1,z2,z3,z4⟩
 ·exact absurd (by rw[gd];exact here) (z (A.length+I.length) (by rw[eE];lia) (by lia))
 ·rw[eE] at z1 z4
  rw[e]
  have:k=A.length+I.length:=by
   rcases Nat.lt_trichotomy k (A.length+I.length) with q|q|q
   ·exfalso
    rw[gd,h,List.getD_eq_getElem?_getD,List.getElem?_append_right (by lia),List.getElem?_append_left (by lia)] at z3
    rw[List.getElem?_eq_getElem (by lia)] at z3
    simp at z3
    exact hI (z3 ▸ List.getElem_mem _)
   ·exact q
   ·exact absurd (by rw[gd];exact here) (z4 (A.length+I.length) (by lia) q)
  rw[this]
theorem Ef{x:Str}{c:Nat}{A I:List Nat}(h:tl x=A++I)(hI:c∉I):Txt.find3 x ⟨#[c]⟩ (A.length:Int)=-1:=by
 have hl:x.length=A.length+I.length:=by rw[ay,h];simp
 have gd:∀v,x.cps.getD v 0=(tl x).getD v 0:=λv=>by simp[tl,List.getD_eq_getElem?_getD]
 rcases StrLaws.find3_spec x c (A.length:Int) with ⟨e,z⟩|⟨k,e,z1,z2,z3,z4⟩
 ·exact e
 ·exfalso
  rw[eE] at z1
  rw[gd,h,List.getD_eq_getElem?_getD,List.getElem?_append_right (by lia)] at z3
  rw[List.getElem?_eq_getElem (by lia)] at z3
  simp at z3
  exact hI (z3 ▸ List.getElem_mem _)
end Fw.U
namespace Fw.k12
open PySem Fw Fw.H Fw.E Fw.U
def sgn:Nat->Nat
 | 0=>35
 | 1=>36
 | 2=>38
 | 3=>42
 | _=>33
def ld(c:Nat):Nat:=if c=35 then 1 else if c=36 then 2 else if c=38 then 3 else if c=42 then 4 else if c=33 then 5 else 0
def isH(c:Nat):Bool:=decide (97≤c/\c<107)
def isS(c:Nat):Bool:=c==35 || c==36 || c==38 || c==42 || c==33
def hn(c:Nat):Nat:=if isH c=true then 1 else 0
def jn:List (List Nat)->List Nat
 | []=>[]
 | x::xs=>x++xs.flatMap λy=>44::32::y
abbrev hdl(k:Int)(m:Nat):List Nat:=tl (bg k m)
def Lg:Nat->List Nat->Nat->Prop
 | 0,s,n=>∃c,isH c=true/\s=[c]/\n=1
 | d+1,s,n=>(∃c,(isH c=true∨isS c=true)/\ld c≤d+1/\s=[c]/\n=hn c) ∨
  ∃(k:Int) (ts:List (List Nat×Nat)),1≤k/\k≤ts.length/\ts.length≤10/\(∀x∈ts,Lg d x.1 x.2)/\s=hdl k ts.length++(jn (ts.map (·.1))++[41])/\n=(ts.map (·.2)).sum
theorem ib:∀i,i<5->ld (sgn i)=i+1/\isS (sgn i)=true/\isH (sgn i)=false:=by decide
theorem kT{c:Nat}(h:isS c=true):∃i,i<5/\c=sgn i:=by
 simp only[isS,Bool.or_eq_true,beq_iff_eq] at h
 rcases h with (((h|h)|h)|h)|h
 ·exact⟨0,by decide,h⟩
 ·exact⟨1,by decide,h⟩
 ·exact⟨2,by decide,h⟩
 ·exact⟨3,by decide,h⟩
 ·exact⟨4,by decide,h⟩
theorem rO{c:Nat}(h:isH c=true):ld c=0:=by
 have h:97≤c/\c<107:=of_decide_eq_true h
 unfold ld
 repeat rw[if_neg (by lia)]
theorem lR{c:Nat}(h:isH c=true):hn c=1:=by unfold hn;rw[if_pos h]
theorem rP{c:Nat}(h:isS c=true):isH c=false:=by
 obtain⟨i,hi,rfl⟩:=kT h
 exact(ib i hi).2.2
theorem wo{c:Nat}(h:isS c=true):hn c=0:=by unfold hn;rw[if_neg (by rw[rP h];decide)]
abbrev Lf(c:Nat):Prop:=isH c=true∨isS c=true
theorem Lg.leaf{d c:Nat}(h:Lf c)(hd:ld c≤d):Lg d [c] (hn c):=by
 cases d with
 | zero =>
  rcases h with h|h
  ·exact⟨c,h,rfl,lR h⟩
  ·obtain⟨i,hi,rfl⟩:=kT h
   rw[(ib i hi).1] at hd
   exact absurd hd (by lia)
 | succ d=>exact .inl ⟨c,h,hd,rfl,rfl⟩
theorem Lg.ne{s:List Nat}{n:Nat}:∀{d:Nat},Lg d s n->s≠[]
 | 0,⟨c,_,h,_⟩=>by rw[h];simp
 | d+1,.inl ⟨c,_,_,h,_⟩=>by rw[h];simp
 | d+1,.inr ⟨k,ts,_,_,_,_,h,_⟩=>by rw[h];simp
theorem Lg.mono:∀{d d':Nat}{s:List Nat}{n:Nat},Lg d s n->d≤d'->Lg d' s n
 | 0,d',s,n,⟨c,h1,h2,h3⟩,_=>by rw[h2,h3,← lR h1];exact .leaf (.inl h1) (by rw[rO h1];exact Nat.zero_le _)
 | d+1,0,_,_,_,h=>absurd h (by lia)
 | d+1,d'+1,s,n,.inl ⟨c,h1,h2,h3,h4⟩,h=>.inl ⟨c,h1,by lia,h3,h4⟩
 | d+1,d'+1,s,n,.inr ⟨k,ts,h1,h2,h3,h4,h5,h6⟩,h=>.inr ⟨k,ts,h1,h2,h3,λx hx=>(h4 x hx).mono (by lia),h5,h6⟩
theorem iW:∀h∈heads,∀c∈tl h,isS c=false/\c≠41/\c≠44:=by decide +kernel
theorem As:∀h∈heads,∃w,tl h=w++[32,40]/\40∉w:=by
 have:∀h∈heads,tl h=((tl h).dropLast.dropLast)++[32,40]/\40∉(tl h).dropLast.dropLast:=by decide +kernel
 exact λh hm=>⟨_,this h hm⟩
theorem rQ{k:Int}{m:Nat}(h1:1≤k)(h2:k≤m)(h3:m≤10):bg k m∈heads:=head_mem h1 h2 (by lia)
theorem xE(x:List Nat)(xs:List (List Nat)):jn (x::xs)=x++xs.flatMap λy=>44::32::y:=rfl
theorem Kc(l1:List (List Nat))(y:List Nat)(l2:List (List Nat)):((l1++y::l2).flatMap λy=>44::32::y)=(l1.flatMap λy=>44::32::y)++(44::32::(y++l2.flatMap λy=>44::32::y)):=by simp
def ahead:List (List Nat)->List Nat
 | []=>[]
 | l=>jn l++[44,32]
theorem wq(l1:List (List Nat))(y:List Nat)(l2:List (List Nat)):jn (l1++y::l2)=ahead l1++(y++l2.flatMap λy=>44::32::y):=by
 cases l1 with
 | nil=>rfl
 | cons x l1 =>
  show x++((l1++y::l2).flatMap λy=>44::32::y)=(x++l1.flatMap λy=>44::32::y)++[44,32]++_
  rw[Kc];simp
theorem Mt{c:Nat}(h1:c≠44)(h2:c≠32):∀(l:List (List Nat)) (a b:List Nat),jn l=a++c::b->∃l1 x l2 a' b',l=l1++x::l2/\x=a'++c::b'/\a=ahead l1++a'/\b=b'++l2.flatMap λy=>44::32::y:=by
 have go:∀(l:List (List Nat)) (x a b:List Nat),x++(l.flatMap λy=>44::32::y)=a++c::b->∃l1 y l2 a' b',x::l=l1++y::l2/\y=a'++c::b'/\a=ahead l1++a'/\b=b'++l2.flatMap λy=>44::32::y:=by
  intro l
  induction l with
  | nil =>
   intro x a b h
   rw[List.flatMap_nil,List.append_nil] at h
   exact⟨[],x,[],a,b,rfl,h,rfl,by simp⟩
  | cons z l ih =>
   intro x a b h
   rw[List.flatMap_cons] at h
   rcases List.append_eq_append_iff.mp h with ⟨a',ha,hb⟩|⟨b',hx,hb⟩
   ·have hb:44::32::(z++l.flatMap λy=>44::32::y)=a'++c::b:=by rw[← hb];simp
    cases a' with
    | nil=>simp at hb;exact absurd hb.1.symm h1
    | cons p a' =>
     cases a' with
     | nil=>simp at hb;exact absurd hb.2.1.symm h2
     | cons p2 a' =>
      simp only[List.cons_append,List.cons.injEq] at hb
      obtain⟨e44,e32,hb3⟩:=hb
      subst e44 e32
      obtain⟨l1,y,l2,a2,b2,e1,e2,e3,e4⟩:=ih z a' b hb3
      refine⟨x::l1,y,l2,a2,b2,by rw[e1];rfl,e2,?_,e4⟩
      rw[ha,e3]
      cases l1 with
      | nil=>simp[ahead,jn]
      | cons q l1=>simp[ahead,jn]
   ·cases b' with
    | nil =>
     simp at hb;exact absurd hb.1 h1
    | cons p b' =>
     simp only[List.cons_append,List.cons.injEq] at hb
     obtain⟨rfl,hb⟩:=hb
     exact⟨[],x,z::l,a,b',rfl,hx,rfl,by rw[hb,List.flatMap_cons];rfl⟩
 intro l a b h
 cases l with
 | nil=>exact absurd h (by simp[jn])
 | cons x l=>exact go l x a b h
theorem mD(l1 l2:List (List Nat×Nat))(x:List Nat×Nat):((l1++x::l2).map (·.2)).sum=(l1.map (·.2)).sum+x.2+(l2.map (·.2)).sum:=by
 rw[List.map_append,List.sum_append,List.map_cons,List.sum_cons];lia
theorem Au{α β:Type}{f:α->β}:∀{l:List α}{l1 l2:List β}{y:β},l.map f=l1++y::l2->∃m1 x m2,l=m1++x::m2/\m1.map f=l1/\f x=y/\m2.map f=l2:=by
 intro l l1 l2 y h
 obtain⟨m1,m2,rfl,h1,h2⟩:=List.map_eq_append_iff.mp h
 obtain⟨x,m3,rfl,h3,h4⟩:=List.map_eq_cons_iff.mp h2
 exact⟨m1,x,m3,rfl,h1,h3,h4⟩
theorem Lg.put:∀{d:Nat}{s a b:List Nat}{n i m:Nat}{q:List Nat},Lg d s n->s=a++sgn i::b->i<5->Lg (i+1) q m->Lg d (a++(q++b)) (n+m)
 | 0,s,a,b,n,i,m,q,⟨c,h1,h2,h3⟩,hs,hi,hq=>by
  rw[h2] at hs
  have:c=sgn i:=by
   cases a with
   | nil=>simp at hs;exact hs.1
   | cons z a=>simp at hs
  rw[this,(ib i hi).2.2] at h1
  cases h1
 | d+1,s,a,b,n,i,m,q,.inl ⟨c,h1,h2,h3,h4⟩,hs,hi,hq=>by
  rw[h3] at hs
  cases a with
  | nil =>
   simp at hs
   obtain⟨rfl,rfl⟩:=hs
   rw[(ib i hi).1] at h2
   rw[h4,wo (ib i hi).2.1,List.nil_append,List.append_nil,Nat.zero_add]
   exact hq.mono h2
  | cons z a=>simp at hs
 | d+1,s,a,b,n,i,m,q,.inr ⟨k,ts,h1,h2,h3,h4,h5,h6⟩,hs,hi,hq=>by
  have hm:=rQ h1 h2 h3
  have sI:=(ib i hi).2.1
  have n44:sgn i≠44:=λe=>by rw[e] at sI;cases sI
  have n32:sgn i≠32:=λe=>by rw[e] at sI;cases sI
  have n41:sgn i≠41:=λe=>by rw[e] at sI;cases sI
  rw[h5] at hs
  have:∃a',a=hdl k ts.length++a'/\jn (ts.map (·.1))++[41]=a'++sgn i::b:=by
   rcases List.append_eq_append_iff.mp hs with ⟨a',ha,hb⟩|⟨b',hx,hb⟩
   ·exact⟨a',ha,hb⟩
   ·cases b' with
    | nil =>
     rw[List.append_nil] at hx
     exact⟨[],by rw[List.append_nil];exact hx.symm,by rw[List.nil_append] at hb ⊢;exact hb.symm⟩
    | cons z b' =>
     simp only[List.cons_append,List.cons.injEq] at hb
     have:=(iW _ hm (sgn i) (by show sgn i∈hdl k ts.length;rw[hx];simp[hb.1])).1
     rw[sI] at this;cases this
  obtain⟨a',ha,hb⟩:=this
  have:∃b2,jn (ts.map (·.1))=a'++sgn i::b2/\b=b2++[41]:=by
   rcases List.append_eq_append_iff.mp hb with ⟨a2,hc,hd⟩|⟨b2,hc,hd⟩
   ·cases a2 with
    | nil=>simp at hd;exact absurd hd.1.symm n41
    | cons z a2=>simp at hd
   ·cases b2 with
    | nil=>simp at hd;exact absurd hd.1 n41
    | cons z b2 =>
     simp only[List.cons_append,List.cons.injEq] at hd
     obtain⟨rfl,hd⟩:=hd
     exact⟨b2,hc,hd⟩
  obtain⟨b2,e1,e2⟩:=this
  obtain⟨l1,x,l2,a3,b3,g1,g2,g3,g4⟩:=Mt n44 n32 _ _ _ e1
  obtain⟨m1,y,m2,rfl,r1,r2,r3⟩:=Au g1
  have hy:=(h4 y (by simp)).put (by rw[r2];exact g2) hi hq
  refine .inr ⟨k,m1++(a3++(q++b3),y.2+m)::m2,h1,by simpa using h2,by simpa using h3,λz hz=>?_,?_,?_⟩
  ·rcases List.mem_append.mp hz with hz|hz
   ·exact h4 z (by simp[hz])
   ·rcases List.mem_cons.mp hz with rfl|hz
    ·exact hy
    ·exact h4 z (by simp[hz])
  ·rw[ha,e2,g3,g4,List.map_append,List.map_cons,wq,r1,r3]
   simp
  ·rw[h6,mD,mD];lia
def j0(pre:List Nat):Prop:=pre=[]∨(∃z,pre=z++[40])∨∃z,pre=z++[44,32]
def dpf(a:Nat)(ls:List Nat):Nat:=ls.foldl (λa c=>max a (ld c)) a
theorem oE(a c:Nat)(ls:List Nat):dpf a (c::ls)=dpf (max a (ld c)) ls:=rfl
theorem Eg:∀(ls:List Nat) (a:Nat),a≤dpf a ls/\∀c∈ls,ld c≤dpf a ls
 | [],a=>⟨Nat.le_refl _,λc hc=>(by cases hc)⟩
 | c::ls,a=>by
  obtain⟨h1,h2⟩:=Eg ls (max a (ld c))
  rw[oE]
  refine⟨by lia,λx hx=>?_⟩
  rcases List.mem_cons.mp hx with rfl|hx
  ·lia
  ·exact h2 x hx
theorem rR:∀(ls:List Nat) (a b:Nat),a≤b->(∀c∈ls,ld c≤b)->dpf a ls≤b
 | [],a,b,h,_=>h
 | c::ls,a,b,h,hc=>by
  rw[oE]
  have:=hc c List.mem_cons_self
  exact rR ls _ b (by lia) λx hx=>hc x (List.mem_cons_of_mem _ hx)
abbrev one(ls:List Nat):List (List Nat):=ls.map λc=>[c]
theorem mE{k:Int}{m:Nat}(h1:1≤k)(h2:k≤m)(h3:m≤10):∃w,hdl k m=w++[32,40]/\40∉w:=As _ (rQ h1 h2 h3)
theorem Lg.single{d n:Nat}{s:List Nat}(h:Lg d s n)(h40:40∉s):∃c,Lf c/\ld c≤d/\s=[c]/\n=hn c:=by
 cases d with
 | zero =>
  obtain⟨c,h1,h2,h3⟩:=h
  exact⟨c,.inl h1,by rw[rO h1];exact Nat.zero_le _,h2,by rw[h3,lR h1]⟩
 | succ d =>
  rcases h with ⟨c,h1,h2,h3,h4⟩|⟨k,ts,h1,h2,h3,h4,h5,h6⟩
  ·exact⟨c,h1,h2,h3,h4⟩
  ·obtain⟨w,hw,_⟩:=mE h1 h2 h3
   exact absurd (by rw[h5,hw];simp) h40
theorem xF{d:Nat}:∀(ts:List (List Nat×Nat)),(∀x∈ts,Lg d x.1 x.2)->(∀x∈ts,40∉x.1)->∃ls:List Nat,ts.map (·.1)=one ls/\ts.map (·.2)=ls.map hn/\(∀c∈ls,Lf c/\ld c≤d)/\ls.length=ts.length
 | [],_,_=>⟨[],rfl,rfl,λc hc=>(by cases hc),rfl⟩
 | x::ts,h1,h2=>by
  obtain⟨c,a1,a2,a3,a4⟩:=(h1 x List.mem_cons_self).single (h2 x List.mem_cons_self)
  obtain⟨ls,b1,b2,b3,b4⟩:=xF ts (λy hy=>h1 y (List.mem_cons_of_mem _ hy)) λy hy=>h2 y (List.mem_cons_of_mem _ hy)
  refine⟨c::ls,by rw[List.map_cons,b1,a3];rfl,by rw[List.map_cons,b2,a4];rfl,λz hz=>?_,by simp[b4]⟩
  rcases List.mem_cons.mp hz with rfl|hz
  ·exact⟨a1,a2⟩
  ·exact b3 z hz
theorem ic{α:Type}{p:α->Prop}:∀(l:List α),(∃x∈l,p x)->∃m1 y m2,l=m1++y::m2/\p y/\∀z∈m2,¬ p z
 | [],⟨x,hx,_⟩=>by cases hx
 | a::l,h=>by
  by_cases q:∃x∈l,p x
  ·obtain⟨m1,y,m2,h1,h2,h3⟩:=ic l q
   exact⟨a::m1,y,m2,by rw[h1];rfl,h2,h3⟩
  ·obtain⟨x,hx,hp⟩:=h
   rcases List.mem_cons.mp hx with rfl|hx
   ·exact⟨[],x,l,rfl,hp,λz hz hz2=>q ⟨z,hz,hz2⟩⟩
   ·exact absurd ⟨x,hx,hp⟩ q
theorem G7:∀(l:List (List Nat)),(∀x∈l,40∉x)->40∉l.flatMap λy=>44::32::y:=by
 intro l h hm
 obtain⟨x,hx,hc⟩:=List.mem_flatMap.mp hm
 have:=h x hx
 simp at hc
 exact this hc
theorem j0.more{a b:List Nat}(h:j0 b)(ha:j0 a):j0 (a++b):=by
 rcases h with rfl|⟨z,rfl⟩|⟨z,rfl⟩
 ·rw[List.append_nil];exact ha
 ·exact .inr (.inl ⟨a++z,by simp⟩)
 ·exact .inr (.inr ⟨a++z,by simp⟩)
theorem j0.ahead(l:List (List Nat)):j0 (ahead l):=by
 cases l with
 | nil=>exact .inl rfl
 | cons x l=>exact .inr (.inr ⟨_,rfl⟩)
theorem Lg.last:∀{d:Nat}{s:List Nat}{n:Nat},d≤5->Lg d s n->40∈s->∃(pre post:List Nat) (k:Int) (ls:List Nat) (n':Nat),1≤k/\k≤ls.length/\ls.length≤10/\(∀c∈ls,Lf c)/\dpf 0 ls≤4 /\
  s=pre++(hdl k ls.length++(jn (one ls)++41::post))/\40∉post/\j0 pre/\n=n'+(ls.map hn).sum/\Lg d (pre++sgn (dpf 0 ls)::post) n'
 | 0,s,n,_,⟨c,h1,h2,h3⟩,h40=>by
  rw[h2] at h40
  simp at h40
  subst h40
  cases h1
 | d+1,s,n,hd,.inl ⟨c,h1,h2,h3,h4⟩,h40=>by
  rw[h3] at h40
  simp at h40
  subst h40
  rcases h1 with h1|h1<;>cases h1
 | d+1,s,n,hd,.inr ⟨k,ts,h1,h2,h3,h4,h5,h6⟩,h40=>by
  obtain⟨w,hw,_⟩:=mE h1 h2 h3
  by_cases q:∃x∈ts,40∈x.1
  ·obtain⟨m1,y,m2,rfl,hy,hz⟩:=ic ts q
   obtain⟨pre,post,k',ls,n',g1,g2,g3,g4,g5,g6,g7,g8,g9,g10⟩:=(h4 y (by simp)).last (by lia) hy
   have F2:=G7 (m2.map (·.1)) λx hx=>by
    obtain⟨z,hz2,rfl⟩:=List.mem_map.mp hx
    exact hz z hz2
   refine⟨hdl k (m1++y::m2).length++(ahead (m1.map (·.1))++pre),post++((m2.map (·.1)).flatMap (λy=>44::32::y)++[41]),k',ls,(m1.map (·.2)).sum+n'+(m2.map (·.2)).sum,g1,g2,g3,g4,g5,?_,?_,?_,?_,?_⟩
   ·rw[h5,List.map_append,List.map_cons,wq,g6]
    simp
   ·simp only[List.mem_append,List.mem_singleton]
    rintro (z|z|z)
    ·exact g7 z
    ·exact F2 z
    ·cases z
   ·refine(g8.more (j0.ahead _)).more (.inr (.inl ⟨w++[32],by rw[hw];simp⟩))
   ·rw[h6,mD,g9];lia
   ·refine .inr ⟨k,m1++(pre++sgn (dpf 0 ls)::post,n')::m2,h1,by simpa using h2,by simpa using h3,λz hz=>?_,?_,?_⟩
    ·rcases List.mem_append.mp hz with hz|hz
     ·exact h4 z (by simp[hz])
     ·rcases List.mem_cons.mp hz with rfl|hz
      ·exact g10
      ·exact h4 z (by simp[hz])
    ·rw[List.map_append,List.map_cons,wq]
     simp
    ·rw[mD]
  ·obtain⟨ls,b1,b2,b3,b4⟩:=xF ts h4 λx hx hc=>q ⟨x,hx,hc⟩
   have dd:dpf 0 ls≤d:=rR ls 0 d (Nat.zero_le _) λc hc=>(b3 c hc).2
   refine⟨[],[],k,ls,0,h1,by rw[b4];exact h2,by rw[b4];exact h3,λc hc=>(b3 c hc).1,by lia,?_,by simp,.inl rfl,by rw[h6,b2,Nat.zero_add],?_⟩
   ·rw[h5,b1,b4];simp
   ·obtain⟨s1,s2,s3⟩:=ib (dpf 0 ls) (by lia)
    exact .inl ⟨_,.inr s2,by rw[s1];lia,rfl,(wo s2).symm⟩
theorem Lg.some{k:Int}{ls:List Nat}(h1:1≤k)(h2:k≤ls.length)(h3:ls.length≤10)(h4:∀c∈ls,Lf c):Lg (dpf 0 ls+1) (hdl k ls.length++(jn (one ls)++[41])) (ls.map hn).sum:=by
 refine .inr ⟨k,ls.map λc=>([c],hn c),h1,by simpa using h2,by simpa using h3,λx hx=>?_,?_,?_⟩
 ·obtain⟨c,hc,rfl⟩:=List.mem_map.mp hx
  exact .leaf (h4 c hc) ((Eg ls 0).2 c hc)
 ·rw[List.map_map,List.length_map];rfl
 ·rw[List.map_map];rfl
theorem Eh{f:T->List Nat}(r:T)(rs:List T):jn ((r::rs).map f)=f r++rs.flatMap λx=>44::32::f x:=by
 rw[List.map_cons,xE,List.flatMap_map]
theorem wt:∀(d:Nat) (t:T),IsR d t->Lg d (txt d t) (hwd d t).length
 | 0,t,⟨h,h0,h1,e⟩=>by
  subst e
  exact⟨97+h.toNat,decide_eq_true (by lia),rfl,rfl⟩
 | d+1,t,.inl ⟨h,h0,h1,e⟩=>by
  subst e
  have hh:isH (97+h.toNat)=true:=decide_eq_true (by lia)
  exact .inl ⟨97+h.toNat,.inl hh,by rw[rO hh];lia,rfl,(lR hh).symm⟩
 | d+1,t,.inr ⟨k,r,rs,e,h1,h2,h3,h4⟩=>by
  subst e
  refine .inr ⟨k,(r::rs).map λx=>(txt d x,(hwd d x).length),h1,by simpa using h2,by simpa using h3,λx hx=>?_,?_,?_⟩
  ·obtain⟨y,hy,rfl⟩:=List.mem_map.mp hx
   exact wt d y (h4 y hy)
  ·rw[List.map_map,eZ,show((λx:List Nat×Nat=>x.1) ∘ λx=>(txt d x,(hwd d x).length))=txt d from rfl,Eh]
   simp[hdl]
  ·rw[List.map_map,show hwd (d+1) (som k (r::rs))=(r::rs).flatMap (hwd d) from rfl,List.length_flatMap]
   rfl
theorem trees{d:Nat}(ih:∀{s:List Nat}{n:Nat},Lg d s n->(∀c∈s,isS c=false)->∃t,IsR d t/\txt d t=s/\(hwd d t).length=n):∀(ts:List (List Nat×Nat)),(∀x∈ts,Lg d x.1 x.2)->(∀x∈ts,∀c∈x.1,isS c=false)->∃rs:List T,(∀x∈rs,IsR d x)/\rs.map (txt d)=ts.map (·.1)/\rs.map (λt=>(hwd d t).length)=ts.map (·.2)
 | [],_,_=>⟨[],λx hx=>(by cases hx),rfl,rfl⟩
 | x::ts,h1,h2=>by
  obtain⟨t,a1,a2,a3⟩:=ih (h1 x List.mem_cons_self) (h2 x List.mem_cons_self)
  obtain⟨rs,b1,b2,b3⟩:=trees ih ts (λy hy=>h1 y (List.mem_cons_of_mem _ hy)) λy hy=>h2 y (List.mem_cons_of_mem _ hy)
  refine⟨t::rs,λy hy=>?_,by rw[List.map_cons,List.map_cons,a2,b2],by rw[List.map_cons,List.map_cons,a3,b3]⟩
  rcases List.mem_cons.mp hy with rfl|hy
  ·exact a1
  ·exact b1 y hy
theorem Ke{l:List (List Nat)}{x:List Nat}(h:x∈l):∀c∈x,c∈jn l:=by
 intro c hc
 cases l with
 | nil=>cases h
 | cons y l =>
  rw[xE]
  rcases List.mem_cons.mp h with rfl|h
  ·exact List.mem_append_left _ hc
  ·exact List.mem_append_right _ (List.mem_flatMap.mpr ⟨x,h,by simp[hc]⟩)
theorem Ei{c:Nat}(h:isH c=true):∃i:Int,0≤i/\i<10/\ltr i=[c]:=by
 have h:97≤c/\c<107:=of_decide_eq_true h
 exact⟨((c-97:Nat):Int),by lia,by lia,by unfold ltr;congr 1;lia⟩
theorem Ej:∀{d:Nat}{s:List Nat}{n:Nat},Lg d s n->(∀c∈s,isS c=false)->∃t,IsR d t/\txt d t=s/\(hwd d t).length=n
 | 0,s,n,⟨c,h1,h2,h3⟩,_=>by
  obtain⟨i,a1,a2,a3⟩:=Ei h1
  exact⟨hnd i,⟨i,a1,a2,rfl⟩,by rw[d_,a3,h2],by rw[h3];rfl⟩
 | d+1,s,n,.inl ⟨c,h1,h2,h3,h4⟩,hs=>by
  have hc:isS c=false:=hs c (by rw[h3];simp)
  have h1:isH c=true:=by
   rcases h1 with h1|h1
   ·exact h1
   ·rw[h1] at hc;cases hc
  obtain⟨i,a1,a2,a3⟩:=Ei h1
  exact⟨hnd i,.inl ⟨i,a1,a2,rfl⟩,by rw[d_,a3,h3],by rw[h4,lR h1];rfl⟩
 | d+1,s,n,.inr ⟨k,ts,h1,h2,h3,h4,h5,h6⟩,hs=>by
  obtain⟨rs,b1,b2,b3⟩:=trees (λh1 h2=>Ej h1 h2) ts h4 λx hx c hc=>hs c (by
   rw[h5]
   exact List.mem_append_right _ (List.mem_append_left _ (Ke (List.mem_map_of_mem hx) c hc)))
  have hl:rs.length=ts.length:=by simpa using congrArg List.length b2
  cases rs with
  | nil=>simp at hl;rw[← hl] at h2;simp at h2;lia
  | cons r rs =>
   refine⟨som k (r::rs),.inr ⟨k,r,rs,rfl,h1,?_,?_,b1⟩,?_,?_⟩
   ·rw[← hl] at h2;simpa using h2
   ·rw[← hl] at h3;simpa using h3
   ·rw[h5,eZ,← b2,Eh,← hl]
    simp[hdl]
   ·rw[show hwd (d+1) (som k (r::rs))=(r::rs).flatMap (hwd d) from rfl,List.length_flatMap,b3,h6]
def cmS:RS->RS
 | .err _ _ _=>.bad
 | r=>r
theorem fy(d:DS)(e:Slots)(μ:aa):cV d e μ=cmS (d e μ):=by unfold cV cmS;cases d e μ<;>rfl
theorem rS(x:SV)(μ:aa):cmS (.rt x μ)=.rt x μ:=(rfl)
theorem Ek(e:Slots)(μ:aa):cmS (.nx e μ)=.nx e μ:=(rfl)
theorem cR(n:Str)(e:Slots)(μ:aa):c9 n e μ=.err (.exc n none) e μ:=(rfl)
theorem b_(c:T)(e:Slots)(μ:aa)(f:Slots->aa->RS):(RS.err c e μ).seq f=.err c e μ:=(rfl)
theorem bM(n:Nat)(c:T)(e:Slots)(μ:aa):RS.oQ n (.err c e μ)=.err c (μ.take n):=(rfl)
theorem toS_err{α:Type}(c:T)(e:Slots)(μ:aa)(f:α->aa->RS):(R.err c μ:R α).toS e f=.err c e μ:=(rfl)
def res(o:Option T)(μ:aa):R SV:=match o with
 | some t=>.ok (.val t) μ
 | none=>.err (.exc "NoRule" none) μ
theorem res_some(t:T)(μ:aa):res (some t) μ=.ok (.val t) μ:=(rfl)
theorem res_none(μ:aa):res none μ=.err (.exc "NoRule" none) μ:=(rfl)
def rtS(o:Option T)(e:Slots)(μ:aa):RS:=match o with
 | some t=>.rt (.val t) μ
 | none=>.err (.exc "NoRule" none) e μ
def oF(S:FN):DS:=(sIf (fJ (ae 0) (ae 3) (ae 1)) (aK (ax S [(ae 0),(ae 1),(ae 3),(ah av (ae 2) (dC (.int 1)))])) a6)
theorem iX{S:FN}{s:Str}{pre rest:List Nat}(hs:tl s=pre++rest){dep:Int}(μ:aa):∀(hd:List Str) (x3 x4:Option SV),
  (∀h o,hd.find? (λh'=>rest.take h'.length==tl h')=some h->S [.val (.str s),.val (.int pre.length),.val (.str h),.val (.int (dep+1))] μ=res o μ ->
   ∃e,forL (λ_=>True) (aS 3) (oF S) (hd.map T.str) [some (.val (.str s)),some (.val (.int pre.length)),some (.val (.int dep)),x3,x4] μ=rtS o e μ) /\
  (hd.find? (λh'=>rest.take h'.length==tl h')=none->∃x3',forL (λ_=>True) (aS 3) (oF S) (hd.map T.str) [some (.val (.str s)),some (.val (.int pre.length)),some (.val (.int dep)),x3,x4] μ =
   .nx [some (.val (.str s)),some (.val (.int pre.length)),some (.val (.int dep)),x3',x4] μ)
 | [],x3,x4=>⟨λh o hf=>by simp at hf,λ_=>⟨x3,by simp[forL]⟩⟩
 | h0::hd,x3,x4=>by
  have e0:=jd (t:=h0) hs
  obtain⟨i1,i2⟩:=iX hs (S:=S) (dep:=dep) μ hd (some (.val (.str h0))) x4
  rw[List.find?_cons]
  cases c:(rest.take h0.length==tl h0) with
  | true =>
   rw[c] at e0
   refine⟨λh o hf hS=>?_,λhf=>by simp at hf⟩
   cases hf
   refine⟨[some (.val (.str s)),some (.val (.int pre.length)),some (.val (.int dep)),some (.val (.str h0)),x4],?_⟩
   rw[List.map_cons,forL,if_pos trivial]
   have hb:oF S [some (.val (.str s)),some (.val (.int pre.length)),some (.val (.int dep)),some (.val (.str h0)),x4] μ=rtS o [some (.val (.str s)),some (.val (.int pre.length)),some (.val (.int dep)),some (.val (.str h0)),x4] μ:=by
    unfold oF
    cases o with
    | none=>rw[res_none] at hS;simp?! only[cG,aV,e0,hS,toS_err];rfl
    | some t=>rw[res_some] at hS;simp?! only[cG,aV,e0,hS];rfl
   simp only[eg,List.set_cons_succ,List.set_cons_zero,hb]
   cases o<;>rfl
  | false =>
   rw[c] at e0
   have hb:oF S [some (.val (.str s)),some (.val (.int pre.length)),some (.val (.int dep)),some (.val (.str h0)),x4] μ=.nx [some (.val (.str s)),some (.val (.int pre.length)),some (.val (.int dep)),some (.val (.str h0)),x4] μ:=by
    unfold oF
    simp?! only[cG,aV,e0]
   refine⟨λh o hf hS=>?_,λhf=>?_⟩
   ·obtain⟨e,i1⟩:=i1 h o hf hS
    refine⟨e,?_⟩
    rw[List.map_cons,forL,if_pos trivial]
    simp only[eg,List.set_cons_succ,List.set_cons_zero,hb]
    exact i1
   ·obtain⟨x3',e⟩:=i2 hf
    refine⟨x3',?_⟩
    rw[List.map_cons,forL,if_pos trivial]
    simp only[eg,List.set_cons_succ,List.set_cons_zero,hb]
    exact e
theorem oG(R S Q:FN):fo R S Q=(aq (fg (fB (dC (.tup (heads.map T.str)))) (aS 3) (oF S))
 (aq (az 4 (cA (ae 0) (some (ae 1)) (some (ah av (ae 1) (dC (.int 1))))))
 (aq (sIf (dOr (ah fEq (ae 4) (dC (.str ""))) (ah ko (ae 4) (dC (.str "abcdefghij")))) (c9 "NoRule") a6)
 (cV (aK (eP [(eP [(dC (.str "hand")),(bw nz (dC (.str "abcdefghij")) (ae 4))]),(ah av (ae 1) (dC (.int 1)))])))))):=rfl
theorem rT(c:Nat):(c∈tl ("abcdefghij":Str))↔isH c=true:=by
 rw[show tl ("abcdefghij":Str)=(List.range 10).map (97+·) by decide +kernel,List.mem_map]
 unfold isH
 rw[decide_eq_true_iff]
 constructor
 ·rintro⟨i,hi,rfl⟩
  have:=List.mem_range.mp hi
  lia
 ·exact λh=>⟨c-97,List.mem_range.mpr (by lia),by lia⟩
theorem Np(c:Nat):ko (.str ⟨#[c]⟩) (.str "abcdefghij")=some (.bl (!isH c)):=by
 show some (T.bl (!(!(Builtin.Str.occurrences ("abcdefghij":Str) ⟨#[c]⟩ 0 ("abcdefghij":Str).length 1).isEmpty)))=_
 rw[oB]
 congr 3
 rw[Bool.eq_iff_iff,decide_eq_true_iff]
 exact rT c
theorem pX{R S Q:FN}{s h:Str}{pre rest:List Nat}{dep:Int}{o:Option T}(hs:tl s=pre++rest)(hf:heads.find? (λh'=>rest.take h'.length==tl h')=some h)(μ:aa)(hS:S [.val (.str s),.val (.int pre.length),.val (.str h),.val (.int (dep+1))] μ=res o μ) :
  fnV 5 (fo R S Q) [.val (.str s),.val (.int pre.length),.val (.int dep)] μ=res o μ:=by
 obtain⟨e,e1⟩:=(iX hs (S:=S) (dep:=dep) μ heads none none).1 h o hf hS
 rw[oG]
 cases o with
 | none =>
  have e1:_=RS.err (.exc "NoRule" none) e μ:=e1
  simp?! only[e1,b_,bM,List.take_length,res_none]
 | some t =>
  have e1:_=RS.rt (.val t) μ:=e1
  simp?! only[e1,res_some]
def El(n:Nat):List Nat->Option T
 | c::_=>if isH c=true then some (.tup [hnd ((c:Int)-97),.int ((n:Int)+1)]) else none
 | []=>none
theorem ux{n c:Nat}{r:List Nat}(h:isH c=true):El n (c::r)=some (.tup [hnd ((c:Int)-97),.int ((n:Int)+1)]):=if_pos h
theorem xG{n c:Nat}{r:List Nat}(h:isH c=false):El n (c::r)=none:=if_neg (by rw[h];decide)
theorem Em(n:Nat):El n []=none:=rfl
theorem pY{R S Q:FN}{s:Str}{pre rest:List Nat}{dep:Int}(hs:tl s=pre++rest)(hf:heads.find? (λh'=>rest.take h'.length==tl h')=none)(μ:aa) :
  fnV 5 (fo R S Q) [.val (.str s),.val (.int pre.length),.val (.int dep)] μ=res (El pre.length rest) μ:=by
 obtain⟨x3',e1⟩:=(iX hs (S:=S) (dep:=dep) μ heads none none).2 hf
 have Mu:∀l:Str,tl l=rest.take 1->iJ (.str s) (some (pre.length:Int)) (some ((pre.length:Int)+1))=some (.str l):=λl hl=>by
  have e:dS s (some (pre.length:Int)) (some ((pre.length:Int)+1))=l:=by
   apply cz
   rw[show((pre.length:Int)+1)=((pre.length+1:Nat):Int) by simp,rL,hs,hl,List.drop_take]
   simp
  show(if (dS s (some (pre.length:Int)) (some ((pre.length:Int)+1))).length≤szL then some (T.str (dS s (some (pre.length:Int)) (some ((pre.length:Int)+1)))) else none)=_
  rw[e]
  refine if_pos ?_
  rw[ay,hl,List.length_take,szL]
  lia
 cases rest with
 | nil =>
  have e2:=Mu "" (by rfl)
  have e3:(("":Str)=="")=true:=by decide +kernel
  rw[oG,Em]
  simp?! only[e1,bT,e2,e3,cR,b_,bM,List.take_length,res_none]
 | cons c r =>
  have e2:=Mu ⟨#[c]⟩ (by rfl)
  have e3:((⟨#[c]⟩:Str)=="")=false:=by
   rw[beq_eq_false_iff_ne]
   intro q
   have:=congrArg Str.length q
   rw[show("":Str).length=0 by decide +kernel] at this
   cases this
  have e5:=Np c
  rw[oG]
  by_cases hc:isH c=true
  ·have hc2:97≤c/\c<107:=of_decide_eq_true hc
   have hm:=List.mem_range.mpr (show c-97<10 by lia)
   have e4:=wd (c-97) hm
   rw[show 97+(c-97)=c by lia] at e4
   have e6:nz "abcdefghij" (.str ⟨#[c]⟩)=some (.int ((c:Int)-97)):=by
    show(match Builtin.Str.occurrences ("abcdefghij":Str) ⟨#[c]⟩ 0 ("abcdefghij":Str).length 1 with|i::_=>some (T.int (i:Int))|[]=>none)=_
    rw[e4]
    show some (T.int ((c-97:Nat):Int))=_
    rw[show((c-97:Nat):Int)=(c:Int)-97 by lia]
   rw[hc] at e5
   rw[ux hc]
   simp?! only[e1,bT,e2,e3,e5,fy,rS,fk,aV,e6,res_some]
  ·rw[Bool.not_eq_true] at hc
   rw[hc] at e5
   rw[xG hc]
   simp?! only[e1,bT,e2,e3,e5,cR,b_,bM,List.take_length,res_none]
def pZ:DS:=(cV (sIf (ah fEq (ax (cal b5) [(ae 6),(cC (ae 5))]) (ae 2)) (aK (eP [(eP [(dC (.str "some")),(ae 6),(ae 5)]),(aF (ae 4) (dC (.int 1)))])) a6))
theorem kU(R S Q:FN):c_ R S Q=(aq (sIf (ah fGt (ae 3) (dC (.int 5))) (c9 "NoRule") a6)
 (aq (az 4 (ax Q [(ae 0),(ah av (ae 1) (cC (ae 2))),(ae 3)]))
 (aq (az 5 (aF (ae 4) (dC (.int 0))))
 (aq (sIf (ah fGt (cC (ae 5)) (dC (.int 10))) (c9 "NoRule") a6)
 (aq (fg (mj (dC (.int 1)) (ah av (cC (ae 5)) (dC (.int 1)))) (aS 6) pZ)
 (c9 "NoRule")))))):=rfl
theorem En{k m:Int}(h1:1≤k)(h2:k≤m)(h3:m≤10)(μ:aa):b5 [.val (.int k),.val (.int m)] μ=.ok (.val (.str (bg k m))) μ:=U.ou h1 h2 h3 μ
theorem Av{R S Q:FN}{s h:Str}{at_ dep:Int}(hd:5<dep)(μ:aa):fnV 7 (c_ R S Q) [.val (.str s),.val (.int at_),.val (.str h),.val (.int dep)] μ=res none μ:=by
 have c1:decide ((5:Int)<dep)=true:=decide_eq_true hd
 rw[kU]
 simp?! only[c1,cR,b_,bM,List.take_length,res_none]
theorem Aw{R S Q:FN}{s h:Str}{at_ dep:Int}(hd:dep≤5)(hl:h.length≤6)(μ:aa)(hQ:Q [.val (.str s),.val (.int (at_+h.length)),.val (.int dep)] μ=res none μ):fnV 7 (c_ R S Q) [.val (.str s),.val (.int at_),.val (.str h),.val (.int dep)] μ=res none μ:=by
 have c1:decide ((5:Int)<dep)=false:=decide_eq_false (by lia)
 have e0:jg μ (.val (.str h))=some (.int (h.length:Int)):=if_pos (by rw[szL];lia)
 rw[res_none] at hQ
 rw[kU]
 simp?! only[c1,e0,hQ,toS_err,b_,bM,List.take_length,res_none]
theorem Ax{R S Q:FN}{s h:Str}{at_ dep j:Int}{ts:List T}(hd:dep≤5)(hl:h.length≤6)(hm:10<ts.length)(μ:aa)(hQ:Q [.val (.str s),.val (.int (at_+h.length)),.val (.int dep)] μ=res (some (.tup [.tup ts,.int j])) μ):fnV 7 (c_ R S Q) [.val (.str s),.val (.int at_),.val (.str h),.val (.int dep)] μ=res none μ:=by
 have c1:decide ((5:Int)<dep)=false:=decide_eq_false (by lia)
 have c2:decide ((10:Int)<(ts.length:Int))=true:=decide_eq_true (by lia)
 have e0:jg μ (.val (.str h))=some (.int (h.length:Int)):=if_pos (by rw[szL];lia)
 rw[res_some] at hQ
 rw[kU]
 simp?! only[c1,e0,hQ,c2,cR,toS_err,b_,bM,List.take_length,res_none]
def kOf(h:Str)(m:Nat):Option Int:=(eJ 1 m).find? λk=>bg k m==h
theorem Ay{R S Q:FN}{s h:Str}{at_ dep j:Int}{ts:List T}(hd:dep≤5)(hl:h.length≤6)(hm:ts.length≤10)(μ:aa)(hQ:Q [.val (.str s),.val (.int (at_+h.length)),.val (.int dep)] μ=res (some (.tup [.tup ts,.int j])) μ) :
  fnV 7 (c_ R S Q) [.val (.str s),.val (.int at_),.val (.str h),.val (.int dep)] μ=res ((kOf h ts.length).map λk=>.tup [som k ts,.int j]) μ:=by
 have c1:decide ((5:Int)<dep)=false:=decide_eq_false (by lia)
 have c2:decide ((10:Int)<(ts.length:Int))=false:=decide_eq_false (by lia)
 have e0:jg μ (.val (.str h))=some (.int (h.length:Int)):=if_pos (by rw[szL];lia)
 have rn:(dw 1 && dw ((ts.length:Int)+1))=true:=by rw[gi (by lia) (by lia),gi (by lia) (by lia)];rfl
 rw[res_some] at hQ
 have loop:∀(ks:List Int) (x6:Option SV),(∀k∈ks,1≤k/\k≤ts.length) ->
   (∃e,forL (λ_=>True) (aS 6) pZ (ks.map T.int) [some (.val (.str s)),some (.val (.int at_)),some (.val (.str h)),some (.val (.int dep)),some (.val (.tup [.tup ts,.int j])),some (.val (.tup ts)),x6] μ =
    match ks.find? λk=>bg k ts.length==h with
    | some k=>.rt (.val (.tup [som k ts,.int j])) μ
    | none=>.nx e μ):=by
  intro ks
  induction ks with
  | nil=>exact λx6 _=>⟨_,by simp[forL];rfl⟩
  | cons k ks ih =>
   intro x6 hk
   have eh:=En (hk k List.mem_cons_self).1 (hk k List.mem_cons_self).2 (by lia) μ
   rw[List.find?_cons]
   rw[List.map_cons,forL,if_pos trivial]
   simp only[eg,List.set_cons_succ,List.set_cons_zero]
   cases c:(bg k ts.length==h) with
   | true =>
    have hb:pZ [some (.val (.str s)),some (.val (.int at_)),some (.val (.str h)),some (.val (.int dep)),some (.val (.tup [.tup ts,.int j])),some (.val (.tup ts)),some (.val (.int k))] μ=.rt (.val (.tup [som k ts,.int j])) μ:=by
     unfold pZ
     simp?! only[eh,c,fy,rS]
    exact⟨[],by rw[hb]⟩
   | false =>
    have hb:pZ [some (.val (.str s)),some (.val (.int at_)),some (.val (.str h)),some (.val (.int dep)),some (.val (.tup [.tup ts,.int j])),some (.val (.tup ts)),some (.val (.int k))] μ=.nx [some (.val (.str s)),some (.val (.int at_)),some (.val (.str h)),some (.val (.int dep)),some (.val (.tup [.tup ts,.int j])),some (.val (.tup ts)),some (.val (.int k))] μ:=by
     unfold pZ
     simp?! only[eh,c,fy,Ek]
    rw[hb]
    exact ih (some (.val (.int k))) λq hq=>hk q (List.mem_cons_of_mem _ hq)
 obtain⟨e,hf⟩:=loop (eJ 1 ts.length) none (λk hk=>by
  have:=jJ.mp hk
  lia)
 have ei:cj 1 ((ts.length:Int)+1-1).toNat=(eJ 1 ts.length).map T.int:=by
  rw[show((ts.length:Int)+1-1).toNat=ts.length by lia,gm]
 have hf:_=(match kOf h ts.length with
    | some k=>RS.rt (.val (.tup [som k ts,.int j])) μ
    | none=>.nx e μ):=hf
 rw[← ei] at hf
 rw[kU]
 cases hk:kOf h ts.length with
 | none =>
  rw[hk] at hf
  simp?! only[c1,e0,hQ,c2,rn,hf,cR,toS_err,b_,bM,List.take_length,Option.map_none,res_none]
 | some k =>
  rw[hk] at hf
  simp?! only[c1,e0,hQ,c2,rn,hf,res_some]
theorem uy{h:Str}{m:Nat}{k:Int}(e:kOf h m=some k):1≤k/\k≤m/\bg k m=h:=by
 unfold kOf at e
 have h1:=List.mem_of_find?_eq_some e
 have h2:=List.find?_some e
 have:=jJ.mp h1
 exact⟨by lia,by lia,by simpa using h2⟩
theorem Kf{m:Nat}{k:Int}(h1:1≤k)(h2:k≤m)(h3:m≤10):kOf (bg k m) m=some k:=by
 cases e:kOf (bg k m) m with
 | some k' =>
  obtain⟨a1,a2,a3⟩:=uy e
  rw[DY a1 a2 (by lia) h1 h2 a3]
 | none =>
  exfalso
  unfold kOf at e
  rw[List.find?_eq_none] at e
  exact e k (jJ.mpr ⟨by lia,by lia⟩) (by simp)
abbrev Ps:=List Nat->Option (T×Nat)
def lp(o:Ps):Nat->List Nat->Option (List T×Nat)
 | 0,_=>some ([],0)
 | f+1,rest=>if rest.take 2=[44,32] then (o (rest.drop 2)).bind λa=>(lp o f (rest.drop (2+a.2))).map λb=>(a.1::b.1,2+a.2+b.2) else some ([],0)
def prs(o:Ps)(rest:List Nat):Option (List T×Nat):=(o rest).bind λa=>(lp o rest.length (rest.drop a.2)).bind λb=>if (rest.drop (a.2+b.2)).take 1=[41] then some (a.1::b.1,a.2+b.2+1) else none
def sm(h:Str)(a:List T×Nat):Option (T×Nat):=if a.1.length≤10 then (kOf h a.1.length).map λk=>(som k a.1,h.length+a.2) else none
def o5:Ps
 | c::_=>if isH c=true then some (hnd ((c:Int)-97),1) else none
 | []=>none
def fh(rest:List Nat):Option Str:=heads.find? λh'=>rest.take h'.length==tl h'
def pr:Nat->Ps
 | 0,rest=>match fh rest with
  | some _=>none
  | none=>o5 rest
 | d+1,rest=>match fh rest with
  | some h=>(prs (pr d) (rest.drop h.length)).bind (sm h)
  | none=>o5 rest
def tt(n:Nat)(o:Option (T×Nat)):Option T:=o.map λa=>.tup [a.1,.int ((n:Int)+a.2)]
def Tells(R:FN)(s:Str)(dep:Int)(o:Ps):Prop:=∀(pre rest:List Nat) (μ:aa),tl s=pre++rest->R [.val (.str s),.val (.int pre.length),.val (.int dep)] μ=res (tt pre.length (o rest)) μ
def Short(o:Ps):Prop:=∀rest a,o rest=some a->a.2≤rest.length
def c8:D:=(fJ (ae 0) (dC (.str ", ")) (aF (ae 3) (dC (.int 1))))
def ed(R:FN):DS:=(aq (az 3 (ax R [(ae 0),(ah av (aF (ae 3) (dC (.int 1))) (dC (.int 2))),(ae 2)]))
 (cV (cX (ae 4) (aF (ae 3) (dC (.int 0))))))
theorem Az(R S Q:FN):fK R S Q=(aq (az 3 (ax R [(ae 0),(ae 1),(ae 2)]))
 (aq (az 4 (bQ (bq [(aF (ae 3) (dC (.int 0)))])))
 (aq (eG c8 (ed R))
 (aq (sIf (gA (fJ (ae 0) (dC (.str ")")) (aF (ae 3) (dC (.int 1))))) (c9 "NoRule") a6)
 (cV (aK (eP [(dUn jF (ae 4)),(ah av (aF (ae 3) (dC (.int 1))) (dC (.int 1)))]))))))):=rfl
theorem mF:(", ":Str).length=2:=by decide +kernel
theorem Eo:tl (", ":Str)=[44,32]:=by decide +kernel
theorem G8:(")":Str).length=1:=by decide +kernel
theorem Kg:tl (")":Str)=[41]:=by decide +kernel
theorem xH{o:Ps}{f:Nat}{rest:List Nat}(h:¬ rest.take 2=[44,32]):lp o f rest=some ([],0):=by
 cases f with
 | zero=>rfl
 | succ f=>exact if_neg h
theorem Ep{R:FN}{s:Str}{dep:Int}{o:Ps}(hR:Tells R s dep o)(hO:Short o)(x1:Option SV)(μ:aa):∀(f:Nat) (rest done:List Nat×List T) (x:T) (pre:List Nat),tl s=pre++rest.1->rest.1.length≤f->done.2.length+f≤4000000 ->
  ∃e' x' L,ba c8 (ed R) (f+1) [some (.val (.str s)),x1,some (.val (.int dep)),some (.val (.tup [x,.int pre.length])),some (.cel μ.length)] (μ++[(true,.lst done.2)]) =
   match lp o f rest.1 with
   | some b=>.nx [some (.val (.str s)),x1,some (.val (.int dep)),some (.val (.tup [x',.int ((pre.length:Int)+b.2)])),some (.cel μ.length)] (μ++[(true,.lst (done.2++b.1))])
   | none=>.err (.exc "NoRule" none) e' (μ++[(true,.lst L)]):=by
 intro f
 induction f with
 | zero =>
  rintro⟨rest,_⟩ ⟨_,done⟩ x pre hs hf hd
  have e0:=jd (t:=", ") hs
  have:rest=[]:=List.eq_nil_of_length_eq_zero (Nat.le_zero.mp hf)
  subst this
  rw[show((([]:List Nat),‹List T›).1.take (", ":Str).length==tl (", ":Str))=false by rw[Eo];rfl] at e0
  refine⟨[],x,[],?_⟩
  have hc:c8 [some (.val (.str s)),x1,some (.val (.int dep)),some (.val (.tup [x,.int pre.length])),some (.cel μ.length)] (μ++[(true,.lst done)])=.ok (.val (.bl false)) (μ++[(true,.lst done)]):=by
   unfold c8
   simp?! only[cG,aV,e0]
  unfold ba
  simp only[hc,Fw.R.toS_ok,du,Fw.R.bf,Bool.false_eq_true,if_false,lp]
  simp
 | succ f ih =>
  rintro⟨rest,q1⟩ ⟨q2,done⟩ x pre hs hf hd
  have e0:=jd (t:=", ") hs
  rw[mF,Eo] at e0
  by_cases c:rest.take 2=[44,32]
  ·rw[show(rest.take 2==[44,32])=true by rw[c];rfl] at e0
   have hc:c8 [some (.val (.str s)),x1,some (.val (.int dep)),some (.val (.tup [x,.int pre.length])),some (.cel μ.length)] (μ++[(true,.lst done)])=.ok (.val (.bl true)) (μ++[(true,.lst done)]):=by
    unfold c8
    simp?! only[cG,aV,e0]
   have hr:rest=[44,32]++rest.drop 2:=by rw[← c,List.take_append_drop]
   have hs2:tl s=(pre++[44,32])++rest.drop 2:=by rw[hs];show pre++rest=_;rw[List.append_assoc,← hr]
   have e1:=hR (pre++[44,32]) (rest.drop 2) (μ++[(true,.lst done)]) hs2
   have p2:(((pre++[44,32]).length:Nat):Int)=(pre.length:Int)+2:=by simp
   rw[p2] at e1
   have hl2:(rest.drop 2).length+2=rest.length:=by
    have:=congrArg List.length hr
    rw[List.length_append] at this
    simp at this ⊢
    lia
   show ∃e' x' L,ba c8 (ed R) (f+1+1) _ _=match (if rest.take 2=[44,32] then (o (rest.drop 2)).bind λa=>(lp o f (rest.drop (2+a.2))).map λb=>(a.1::b.1,2+a.2+b.2) else some ([],0)) with
    | some b=>_
    | none=>_
   rw[if_pos c]
   cases ho:o (rest.drop 2) with
   | none =>
    rw[ho] at e1
    have e1:_=(Fw.R.err (α:=SV) (.exc "NoRule" none) _):=e1
    refine⟨[some (.val (.str s)),x1,some (.val (.int dep)),some (.val (.tup [x,.int pre.length])),some (.cel μ.length)],x,done,?_⟩
    have hb:ed R [some (.val (.str s)),x1,some (.val (.int dep)),some (.val (.tup [x,.int pre.length])),some (.cel μ.length)] (μ++[(true,.lst done)]) =
      .err (.exc "NoRule" none) [some (.val (.str s)),x1,some (.val (.int dep)),some (.val (.tup [x,.int pre.length])),some (.cel μ.length)] (μ++[(true,.lst done)]):=by
     unfold ed
     simp?! only[e1,toS_err,b_]
    rw[ba]
    simp only[hc,Fw.R.toS_ok,du,Fw.R.bf,if_true,hb]
    rfl
   | some a =>
    obtain⟨t,n⟩:=a
    have hn:n≤(rest.drop 2).length:=hO _ _ ho
    rw[ho] at e1
    have pe:(((pre++[44,32]).length:Nat):Int)+((t,n):T×Nat).2=(pre.length:Int)+2+n:=by rw[p2]
    have e1:_=(Fw.R.ok (α:=SV) (.val (.tup [t,.int ((((pre++[44,32]).length:Nat):Int)+((t,n):T×Nat).2)])) _):=e1
    rw[pe] at e1
    have ea:=m8 μ [] done t (by rw[szL];lia)
    have hb:ed R [some (.val (.str s)),x1,some (.val (.int dep)),some (.val (.tup [x,.int pre.length])),some (.cel μ.length)] (μ++[(true,.lst done)]) =
      .nx [some (.val (.str s)),x1,some (.val (.int dep)),some (.val (.tup [t,.int ((pre.length:Int)+2+n)])),some (.cel μ.length)] (μ++[(true,.lst (done++[t]))]):=by
     unfold ed
     simp?! only[e1,m7,ea,fy,Ek]
    have p3:(((pre++rest.take (2+n)).length:Nat):Int)=(pre.length:Int)+2+n:=by
     rw[List.length_append,List.length_take]
     lia
    obtain⟨e',x',L,i1⟩:=ih (rest.drop (2+n),[]) ([],done++[t]) t (pre++rest.take (2+n)) (by rw[hs,List.append_assoc,List.take_append_drop]) (by show(rest.drop (2+n)).length≤f;rw[List.length_drop];have:rest.length≤f+1:=hf;lia) (by simp at hd ⊢;lia)
    rw[p3] at i1
    refine⟨e',x',L,?_⟩
    rw[ba]
    simp only[hc,Fw.R.toS_ok,du,Fw.R.bf,if_true,hb]
    rw[i1]
    show(match lp o f (rest.drop (2+n)) with
     | some b=>_
     | none=>_)=_
    rw[Option.bind_some]
    cases lp o f (rest.drop (2+n)) with
    | none=>rfl
    | some b =>
     show RS.nx [some (.val (.str s)),x1,some (.val (.int dep)),some (.val (.tup [x',.int ((pre.length:Int)+2+n+b.2)])),some (.cel μ.length)] (μ++[(true,.lst (done++[t]++b.1))]) =
      RS.nx [some (.val (.str s)),x1,some (.val (.int dep)),some (.val (.tup [x',.int ((pre.length:Int)+((2+n+b.2:Nat):Int))])),some (.cel μ.length)] (μ++[(true,.lst (done++t::b.1))])
     rw[show((pre.length:Int)+((2+n+b.2:Nat):Int))=(pre.length:Int)+2+n+b.2 by lia,show done++t::b.1=done++[t]++b.1 by simp]
  ·rw[show(rest.take 2==[44,32])=false by rw[beq_eq_false_iff_ne];exact c] at e0
   refine⟨[],x,[],?_⟩
   have hc:c8 [some (.val (.str s)),x1,some (.val (.int dep)),some (.val (.tup [x,.int pre.length])),some (.cel μ.length)] (μ++[(true,.lst done)])=.ok (.val (.bl false)) (μ++[(true,.lst done)]):=by
    unfold c8
    simp?! only[cG,aV,e0]
   rw[xH c,ba]
   simp only[hc,Fw.R.toS_ok,du,Fw.R.bf,Bool.false_eq_true,if_false]
   simp
theorem wu{o:Ps}(hO:Short o):∀(f:Nat) (rest:List Nat) (b:List T×Nat),lp o f rest=some b->b.2≤rest.length
 | 0,rest,b,h=>by cases h;exact Nat.zero_le _
 | f+1,rest,b,h=>by
  by_cases c:rest.take 2=[44,32]
  ·have h:(o (rest.drop 2)).bind (λa=>(lp o f (rest.drop (2+a.2))).map λb=>(a.1::b.1,2+a.2+b.2))=some b:=by
    have h2:(if rest.take 2=[44,32] then (o (rest.drop 2)).bind λa=>(lp o f (rest.drop (2+a.2))).map λb=>(a.1::b.1,2+a.2+b.2) else some ([],0))=some b:=h
    rwa [if_pos c] at h2
   obtain⟨a,ha,h⟩:=Option.bind_eq_some_iff.mp h
   obtain⟨b',hb,rfl⟩:=Option.map_eq_some_iff.mp h
   have h1:=hO _ _ ha
   have h2:=wu hO f _ _ hb
   have h3:=congrArg List.length c
   rw[List.length_take] at h3
   rw[List.length_drop] at h1 h2
   simp at h3
   show 2+a.2+b'.2≤_
   lia
  ·rw[xH c] at h;cases h;exact Nat.zero_le _
theorem G9{o:Ps}(hO:Short o){rest:List Nat}{a:List T×Nat}(h:prs o rest=some a):a.2≤rest.length:=by
 unfold prs at h
 obtain⟨x,hx,h⟩:=Option.bind_eq_some_iff.mp h
 obtain⟨y,hy,h⟩:=Option.bind_eq_some_iff.mp h
 have h1:=hO _ _ hx
 have h2:=wu hO _ _ _ hy
 rw[List.length_drop] at h2
 by_cases c:(rest.drop (x.2+y.2)).take 1=[41]
 ·rw[if_pos c] at h
  cases h
  have h3:=congrArg List.length c
  rw[List.length_take,List.length_drop] at h3
  simp at h3
  show x.2+y.2+1≤_
  lia
 ·rw[if_neg c] at h;cases h
def tts(n:Nat)(o:Option (List T×Nat)):Option T:=o.map λa=>.tup [.tup a.1,.int ((n:Int)+a.2)]
theorem AA{R S Q:FN}{s:Str}{dep:Int}{o:Ps}(hR:Tells R s dep o)(hO:Short o)(hl:s.length≤2000000){pre rest:List Nat}(hs:tl s=pre++rest)(μ:aa):fnV 5 (fK R S Q) [.val (.str s),.val (.int pre.length),.val (.int dep)] μ=res (tts pre.length (prs o rest)) μ:=by
 have e1:=hR pre rest μ hs
 have hlen:rest.length≤2000000:=by rw[ay,hs,List.length_append] at hl;lia
 rw[Az]
 unfold prs
 cases ho:o rest with
 | none =>
  rw[ho] at e1
  have e1:_=(Fw.R.err (α:=SV) (.exc "NoRule" none) _):=e1
  rw[Option.bind_none]
  show _=(Fw.R.err (α:=SV) (.exc "NoRule" none) μ)
  simp?! only[e1,toS_err,b_,bM,List.take_length]
 | some a =>
  obtain⟨t,n⟩:=a
  have hn:n≤rest.length:=hO _ _ ho
  rw[ho] at e1
  have e1:_=(Fw.R.ok (α:=SV) (.val (.tup [t,.int ((pre.length:Int)+n)])) _):=e1
  have p3:(((pre++rest.take n).length:Nat):Int)=(pre.length:Int)+n:=by
   rw[List.length_append,List.length_take]
   lia
  obtain⟨e',x',L,e2⟩:=Ep hR hO (some (.val (.int pre.length))) μ rest.length (rest.drop n,[]) ([],[t]) t (pre++rest.take n) (by rw[hs,List.append_assoc,List.take_append_drop]) (by show(rest.drop n).length≤_;rw[List.length_drop];lia) (by simp;lia)
  rw[p3] at e2
  rw[Option.bind_some]
  show _=res (tts pre.length ((lp o rest.length (rest.drop n)).bind λb=>if (rest.drop (n+b.2)).take 1=[41] then some (t::b.1,n+b.2+1) else none)) μ
  have e2:ba c8 (ed R) (rest.length+1) [some (.val (.str s)),some (.val (.int pre.length)),some (.val (.int dep)),some (.val (.tup [t,.int ((pre.length:Int)+n)])),some (.cel μ.length)] (μ++[(true,.lst [t])])=(match lp o rest.length (rest.drop n) with
   | some b=>RS.nx [some (.val (.str s)),(some (.val (.int pre.length))),some (.val (.int dep)),some (.val (.tup [x',.int ((pre.length:Int)+n+b.2)])),some (.cel μ.length)] (μ++[(true,T.lst ([t]++b.1))])
   | none=>.err (.exc "NoRule" none) e' (μ++[(true,T.lst L)])):=e2
  cases hp:lp o rest.length (rest.drop n) with
  | none =>
   rw[hp] at e2
   have e3:=lu (c:=c8) (body:=ed R) (n:=rest.length+1) (e:=[some (.val (.str s)),some (.val (.int pre.length)),some (.val (.int dep)),some (.val (.tup [t,.int ((pre.length:Int)+n)])),some (.cel μ.length)]) (μ:=μ++[(true,.lst [t])]) (by rw[e2];intro z;cases z)
   rw[e2] at e3
   rw[Option.bind_none]
   show _=(Fw.R.err (α:=SV) (.exc "NoRule" none) μ)
   simp?! only[e1,e3,toS_err,b_,bM,mr]
  | some b =>
   obtain⟨ts,m⟩:=b
   have hm:m≤(rest.drop n).length:=wu hO _ _ _ hp
   rw[List.length_drop] at hm
   rw[hp] at e2
   have e3:=lu (c:=c8) (body:=ed R) (n:=rest.length+1) (e:=[some (.val (.str s)),some (.val (.int pre.length)),some (.val (.int dep)),some (.val (.tup [t,.int ((pre.length:Int)+n)])),some (.cel μ.length)]) (μ:=μ++[(true,.lst [t])]) (by rw[e2];intro z;cases z)
   rw[e2] at e3
   have hs3:tl s=(pre++rest.take (n+m))++rest.drop (n+m):=by rw[hs,List.append_assoc,List.take_append_drop]
   have e4:=jd (t:=")") hs3
   have p4:(((pre++rest.take (n+m)).length:Nat):Int)=(pre.length:Int)+n+m:=by
    rw[List.length_append,List.length_take]
    lia
   rw[p4,G8,Kg] at e4
   rw[Option.bind_some]
   show _=res (tts pre.length (if (rest.drop (n+m)).take 1=[41] then some (t::ts,n+m+1) else none)) μ
   by_cases c:(rest.drop (n+m)).take 1=[41]
   ·rw[show((rest.drop (n+m)).take 1==[41])=true by rw[c];rfl] at e4
    rw[if_pos c]
    show _=(Fw.R.ok (α:=SV) (.val (.tup [.tup (t::ts),.int ((pre.length:Int)+((n+m+1:Nat):Int))])) μ)
    rw[show((pre.length:Int)+((n+m+1:Nat):Int))=(pre.length:Int)+n+m+1 by lia]
    simp?! only[e1,e3,cG,aV,e4,qC,mr,fy,rS]
   ·rw[show((rest.drop (n+m)).take 1==[41])=false by rw[beq_eq_false_iff_ne];exact c] at e4
    rw[if_neg c]
    show _=(Fw.R.err (α:=SV) (.exc "NoRule" none) μ)
    simp?! only[e1,e3,cG,aV,e4,cR,toS_err,b_,bM,mr]
theorem rU{rest:List Nat}{h:Str}(e:fh rest=some h):h∈heads/\rest=tl h++rest.drop h.length:=by
 unfold fh at e
 have h2:=List.find?_some e
 have h2:rest.take h.length=tl h:=by simpa using h2
 exact⟨List.mem_of_find?_eq_some e,by rw[← h2,List.take_append_drop]⟩
theorem oH{rest:List Nat}{a:T×Nat}(h:o5 rest=some a):∃c r,rest=c::r/\isH c=true/\a=(hnd ((c:Int)-97),1):=by
 cases rest with
 | nil=>cases h
 | cons c r =>
  have h:(if isH c=true then some (hnd ((c:Int)-97),1) else none)=some a:=h
  by_cases q:isH c=true
  ·rw[if_pos q] at h;cases h;exact⟨c,r,rfl,q,rfl⟩
  ·rw[if_neg q] at h;cases h
theorem kW(rest:List Nat):pr 0 rest=(match fh rest with|some _=>none|none=>o5 rest):=rfl
theorem jf(d:Nat)(rest:List Nat):pr (d+1) rest=(match fh rest with|some h=>(prs (pr d) (rest.drop h.length)).bind (sm h)|none=>o5 rest):=rfl
theorem xI{h:Str}{a:List T×Nat}{b:T×Nat}(e:sm h a=some b):∃k,a.1.length≤10/\kOf h a.1.length=some k/\b=(som k a.1,h.length+a.2):=by
 unfold sm at e
 by_cases c:a.1.length≤10
 ·rw[if_pos c] at e
  obtain⟨k,hk,rfl⟩:=Option.map_eq_some_iff.mp e
  exact⟨k,c,hk,rfl⟩
 ·rw[if_neg c] at e;cases e
theorem uz:∀d,Short (pr d)
 | 0,rest,a,h=>by
  rw[kW] at h
  cases e:fh rest with
  | some x=>rw[e] at h;cases h
  | none =>
   rw[e] at h
   obtain⟨c,r,rfl,_,rfl⟩:=oH h
   simp
 | d+1,rest,a,h=>by
  rw[jf] at h
  cases e:fh rest with
  | some x =>
   rw[e] at h
   obtain⟨y,hy,h⟩:=Option.bind_eq_some_iff.mp h
   obtain⟨k,_,_,rfl⟩:=xI h
   have h1:=G9 (uz d) hy
   have h2:=congrArg List.length (rU e).2
   rw[List.length_append,← ay] at h2
   show x.length+y.2≤_
   lia
  | none =>
   rw[e] at h
   obtain⟨c,r,rfl,_,rfl⟩:=oH h
   simp
theorem Er{n:Nat}{rest:List Nat}:El n rest=tt n (o5 rest):=by
 cases rest with
 | nil=>rfl
 | cons c r =>
  by_cases q:isH c=true
  ·rw[ux q,show o5 (c::r)=some (hnd ((c:Int)-97),1) from if_pos q];rfl
  ·rw[Bool.not_eq_true] at q
   rw[xG q,show o5 (c::r)=none from if_neg (by rw[q];decide)];rfl
theorem H_(n:Nat):bO (n+1)=fnV 5 (fo (bO n) (b6 n) (bK n)):=rfl
theorem Ia(n:Nat):b6 (n+1)=fnV 7 (c_ (bO n) (b6 n) (bK n)):=rfl
theorem Mv(n:Nat):bK (n+1)=fnV 5 (fK (bO n) (b6 n) (bK n)):=rfl
theorem Es{s:Str}(hl:s.length≤2000000):∀(d n:Nat) (dep:Int),3*d+2≤n->dep+d=5->Tells (bO n) s dep (pr d):=by
 intro d
 induction d with
 | zero =>
  intro n dep hn hd pre rest μ hs
  obtain⟨m,rfl⟩:∃m,n=m+2:=⟨n-2,by lia⟩
  rw[kW,H_]
  cases e:fh rest with
  | some h=>exact pX hs e μ (by rw[Ia];exact Av (by lia) μ)
  | none=>rw[pY hs e μ,Er]
 | succ d ih =>
  intro n dep hn hd pre rest μ hs
  obtain⟨m,rfl⟩:∃m,n=m+3:=⟨n-3,by lia⟩
  rw[jf,H_]
  cases e:fh rest with
  | none=>rw[pY hs e μ,Er]
  | some h =>
   obtain⟨hm,hr⟩:=rU e
   have hh:=(dY h hm).2
   refine pX hs e μ ?_
   rw[Ia]
   have hs2:tl s=(pre++tl h)++rest.drop h.length:=by rw[hs,List.append_assoc,← hr]
   have e1:=AA (S:=b6 m) (Q:=bK m) (ih m (dep+1) (by lia) (by lia)) (uz d) hl hs2 μ
   rw[← Mv,show((pre++tl h).length:Int)=(pre.length:Int)+h.length by rw[List.length_append,ay];simp] at e1
   show _=res (tt pre.length ((prs (pr d) (rest.drop h.length)).bind (sm h))) μ
   cases hp:prs (pr d) (rest.drop h.length) with
   | none =>
    rw[hp] at e1
    exact Aw (by lia) hh μ e1
   | some a =>
    obtain⟨ts,j⟩:=a
    rw[hp] at e1
    rw[Option.bind_some]
    by_cases c:ts.length≤10
    ·rw[Ay (by lia) hh c μ e1]
     unfold sm
     rw[if_pos c]
     cases kOf h ts.length with
     | none=>rfl
     | some k =>
      show res (some (T.tup [som k ts,.int (((pre++tl h).length:Int)+j)])) μ=res (some (T.tup [som k ts,.int ((pre.length:Int)+((h.length+j:Nat):Int))])) μ
      rw[show(((pre++tl h).length:Int)+j)=(pre.length:Int)+((h.length+j:Nat):Int) by rw[List.length_append,ay];lia]
    ·rw[Ax (by lia) hh (by show 10<ts.length;lia) μ e1]
     unfold sm
     rw[if_neg c];rfl
theorem uA{o:Ps}{d:Nat}(ho:∀rest t n,o rest=some (t,n)->IsR d t/\n=(txt d t).length/\∃post,rest=txt d t++post):∀(f:Nat) (rest:List Nat) (ts:List T) (n:Nat),lp o f rest=some (ts,n)->(∀x∈ts,IsR d x)/\n=(ts.flatMap λx=>44::32::txt d x).length/\∃post,rest=(ts.flatMap λx=>44::32::txt d x)++post
 | 0,rest,ts,n,h=>by cases h;exact⟨λx hx=>(by cases hx),rfl,rest,rfl⟩
 | f+1,rest,ts,n,h=>by
  by_cases c:rest.take 2=[44,32]
  ·have h:(o (rest.drop 2)).bind (λa=>(lp o f (rest.drop (2+a.2))).map λb=>(a.1::b.1,2+a.2+b.2))=some (ts,n):=by
    have h2:(if rest.take 2=[44,32] then (o (rest.drop 2)).bind λa=>(lp o f (rest.drop (2+a.2))).map λb=>(a.1::b.1,2+a.2+b.2) else some ([],0))=some (ts,n):=h
    rwa [if_pos c] at h2
   obtain⟨⟨t,m⟩,ha,h⟩:=Option.bind_eq_some_iff.mp h
   obtain⟨⟨us,m2⟩,hb,e⟩:=Option.map_eq_some_iff.mp h
   cases e
   obtain⟨a1,a2,post,a3⟩:=ho _ _ _ ha
   obtain⟨b1,b2,lW,b3⟩:=uA ho f _ _ _ hb
   have hr:rest=[44,32]++rest.drop 2:=by rw[← c,List.take_append_drop]
   have hp:post=rest.drop (2+m):=by
    rw[← List.drop_drop,a3,a2,List.drop_left]
   refine⟨λx hx=>?_,?_,lW,?_⟩
   ·rcases List.mem_cons.mp hx with rfl|hx
    ·exact a1
    ·exact b1 x hx
   ·rw[List.flatMap_cons]
    show 2+m+m2=_
    rw[List.length_append,← b2,List.length_cons,List.length_cons,a2]
    lia
   ·have b3:rest.drop (2+m)=_:=b3
    rw[hr,a3,hp,b3,List.flatMap_cons]
    simp
  ·rw[xH c] at h;cases h;exact⟨λx hx=>(by cases hx),rfl,rest,rfl⟩
theorem AB{o:Ps}{d:Nat}(ho:∀rest t n,o rest=some (t,n)->IsR d t/\n=(txt d t).length/\∃post,rest=txt d t++post){rest:List Nat}{ts:List T}{n:Nat}(h:prs o rest=some (ts,n)) :
  ∃r rs post,ts=r::rs/\(∀x∈r::rs,IsR d x)/\rest=txt d r++((rs.flatMap λx=>44::32::txt d x)++41::post)/\n=(txt d r).length+(rs.flatMap λx=>44::32::txt d x).length+1:=by
 unfold prs at h
 obtain⟨⟨t,m⟩,hx,h⟩:=Option.bind_eq_some_iff.mp h
 obtain⟨⟨us,m2⟩,hy,h⟩:=Option.bind_eq_some_iff.mp h
 obtain⟨a1,a2,post,a3⟩:=ho _ _ _ hx
 obtain⟨b1,b2,lW,b3⟩:=uA ho _ _ _ _ hy
 by_cases c:(rest.drop (m+m2)).take 1=[41]
 ·rw[if_pos c] at h
  cases h
  have e1:post=(us.flatMap λx=>44::32::txt d x)++lW:=by
   rw[← b3]
   show post=rest.drop m
   rw[a3,a2,List.drop_left]
  have e2:lW=rest.drop (m+m2):=by
   rw[← List.drop_drop]
   have b3:rest.drop m=_:=b3
   rw[b3,b2,List.drop_left]
  have e3:lW=41::lW.drop 1:=by
   rw[← e2] at c
   have:=List.take_append_drop 1 lW
   rw[c] at this
   exact this.symm
  refine⟨t,us,lW.drop 1,rfl,λx hx=>?_,?_,?_⟩
  ·rcases List.mem_cons.mp hx with rfl|hx
   ·exact a1
   ·exact b1 x hx
  ·rw[a3,e1,← e3]
  ·show m+m2+1=_
   rw[a2,b2]
 ·rw[if_neg c] at h;cases h
theorem p5{d:Nat}{rest:List Nat}{t:T}{n:Nat}(h:o5 rest=some (t,n)):(∃h:Int,0≤h/\h<10/\t=hnd h)/\n=(txt d t).length/\∃post,rest=txt d t++post:=by
 obtain⟨c,r,rfl,hc,e⟩:=oH h
 cases e
 have hc:97≤c/\c<107:=of_decide_eq_true hc
 refine⟨⟨(c:Int)-97,by lia,by lia,rfl⟩,by rw[d_];rfl,r,?_⟩
 rw[d_]
 unfold ltr
 rw[show 97+((c:Int)-97).toNat=c by lia];rfl
theorem oI:∀(d:Nat) (rest:List Nat) (t:T) (n:Nat),pr d rest=some (t,n)->IsR d t/\n=(txt d t).length/\∃post,rest=txt d t++post
 | 0,rest,t,n,h=>by
  rw[kW] at h
  cases e:fh rest with
  | some x=>rw[e] at h;cases h
  | none =>
   rw[e] at h
   exact p5 h
 | d+1,rest,t,n,h=>by
  rw[jf] at h
  cases e:fh rest with
  | some x =>
   rw[e] at h
   obtain⟨⟨ts,m⟩,hy,h⟩:=Option.bind_eq_some_iff.mp h
   obtain⟨k,h10,hk,e2⟩:=xI h
   cases e2
   obtain⟨k1,k2,k3⟩:=uy hk
   obtain⟨r,rs,post,rfl,g1,g2,g3⟩:=AB (oI d) hy
   obtain⟨hm,hr⟩:=rU e
   have k2:k≤((r::rs).length:Nat):=k2
   have k3:bg k ((rs.length:Int)+1)=x:=by rw[← k3];simp
   have h10:(r::rs).length≤10:=h10
   simp only[List.length_cons] at k2 h10
   refine⟨.inr ⟨k,r,rs,rfl,k1,by lia,h10,g1⟩,?_,post,?_⟩
   ·show x.length+m=(txt (d+1) (som k (r::rs))).length
    rw[eZ,k3,g3,ay]
    simp
    lia
   ·show rest=txt (d+1) (som k (r::rs))++post
    rw[eZ,k3,hr,g2]
    simp
  | none =>
   rw[e] at h
   obtain⟨a,b⟩:=p5 (d:=d+1) h
   exact⟨.inl a,b⟩
theorem xJ{d:Nat}(ho:∀t post,IsR d t->post.head?≠some 108->pr d (txt d t++post)=some (t,(txt d t).length)){post:List Nat}:∀(ts:List T) (f:Nat),ts.length≤f->(∀x∈ts,IsR d x)->lp (pr d) f ((ts.flatMap λx=>44::32::txt d x)++41::post)=some (ts,(ts.flatMap λx=>44::32::txt d x).length)
 | [],f,_,_=>by
  rw[xH (by simp)];rfl
 | t::ts,0,h,_=>by simp at h
 | t::ts,f+1,h,hr=>by
  have e0:((t::ts).flatMap λx=>44::32::txt d x)++41::post=44::32::(txt d t++((ts.flatMap λx=>44::32::txt d x)++41::post)):=by simp
  rw[e0]
  show(if (44::32::(txt d t++((ts.flatMap λx=>44::32::txt d x)++41::post))).take 2=[44,32] then (pr d ((44::32::(txt d t++((ts.flatMap λx=>44::32::txt d x)++41::post))).drop 2)).bind (λa=>(lp (pr d) f ((44::32::(txt d t++((ts.flatMap λx=>44::32::txt d x)++41::post))).drop (2+a.2))).map λb=>(a.1::b.1,2+a.2+b.2)) else some ([],0))=_
  rw[if_pos (by simp)]
  have e1:(44::32::(txt d t++((ts.flatMap λx=>44::32::txt d x)++41::post))).drop 2=txt d t++((ts.flatMap λx=>44::32::txt d x)++41::post):=rfl
  rw[e1,ho t _ (hr t List.mem_cons_self) pW,Option.bind_some]
  have e2:(44::32::(txt d t++((ts.flatMap λx=>44::32::txt d x)++41::post))).drop (2+(txt d t).length)=(ts.flatMap λx=>44::32::txt d x)++41::post:=by
   rw[← List.drop_drop,e1,List.drop_left]
  rw[e2,xJ ho ts f (by simp at h;lia) λx hx=>hr x (List.mem_cons_of_mem _ hx)]
  show some (t::ts,2+(txt d t).length+(ts.flatMap λx=>44::32::txt d x).length)=_
  rw[List.flatMap_cons]
  congr 2
  rw[List.length_append,List.length_cons,List.length_cons]
  lia
theorem xK(f:T->List Nat):∀ts:List T,ts.length≤(ts.flatMap λx=>44::32::f x).length
 | []=>Nat.le_refl _
 | t::ts=>by
  have:=xK f ts
  rw[List.flatMap_cons,List.length_append,List.length_cons,List.length_cons,List.length_cons]
  lia
theorem Et{d:Nat}(ho:∀t post,IsR d t->post.head?≠some 108->pr d (txt d t++post)=some (t,(txt d t).length)){r:T}{rs:List T}{post:List Nat}(hr:∀x∈r::rs,IsR d x) :
  prs (pr d) (txt d r++((rs.flatMap λx=>44::32::txt d x)++41::post))=some (r::rs,(txt d r).length+(rs.flatMap λx=>44::32::txt d x).length+1):=by
 unfold prs
 rw[ho r _ (hr r List.mem_cons_self) pW,Option.bind_some]
 show(lp (pr d) _ ((txt d r++((rs.flatMap λx=>44::32::txt d x)++41::post)).drop (txt d r).length)).bind _=_
 have hg:=xK (txt d) rs
 rw[List.drop_left,xJ ho rs _ (by simp only[List.length_append];lia) λx hx=>hr x (List.mem_cons_of_mem _ hx),Option.bind_some]
 have e:(txt d r++((rs.flatMap λx=>44::32::txt d x)++41::post)).drop ((txt d r).length+(rs.flatMap λx=>44::32::txt d x).length)=41::post:=by
  rw[← List.drop_drop,List.drop_left,List.drop_left]
 show(if ((txt d r++((rs.flatMap λx=>44::32::txt d x)++41::post)).drop ((txt d r).length+(rs.flatMap λx=>44::32::txt d x).length)).take 1=[41] then _ else _)=_
 rw[e,if_pos (by simp)]
theorem uB{h:Int}(h0:0≤h)(h1:h<10)(post:List Nat):o5 (ltr h++post)=some (hnd h,1):=by
 show(if isH (97+h.toNat)=true then some (hnd (((97+h.toNat:Nat):Int)-97),1) else none)=_
 rw[if_pos (show isH (97+h.toNat)=true from decide_eq_true (by lia)),show(((97+h.toNat:Nat):Int)-97)=h by lia]
theorem xM:∀(d:Nat) (t:T) (post:List Nat),IsR d t->post.head?≠some 108->pr d (txt d t++post)=some (t,(txt d t).length)
 | 0,t,post,⟨h,h0,h1,e⟩,hp=>by
  subst e
  rw[kW,d_,show fh (ltr h++post)=none from xr (c:=h.toNat) (by lia) hp]
  exact uB h0 h1 post
 | d+1,t,post,.inl ⟨h,h0,h1,e⟩,hp=>by
  subst e
  rw[jf,d_,show fh (ltr h++post)=none from xr (c:=h.toNat) (by lia) hp]
  exact uB h0 h1 post
 | d+1,t,post,.inr ⟨k,r,rs,e,h1,h2,h3,h4⟩,hp=>by
  subst e
  have e0:txt (d+1) (som k (r::rs))++post=tl (bg k (rs.length+1))++(txt d r++((rs.flatMap λx=>44::32::txt d x)++41::post)):=by rw[eZ];simp
  have hf:fh (tl (bg k (rs.length+1))++(txt d r++((rs.flatMap λx=>44::32::txt d x)++41::post)))=some (bg k (rs.length+1)):=lQ (head_mem h1 h2 (by lia))
  rw[jf,e0,hf]
  show(prs (pr d) ((tl (bg k (rs.length+1))++(txt d r++((rs.flatMap λx=>44::32::txt d x)++41::post))).drop (bg k (rs.length+1)).length)).bind (sm (bg k (rs.length+1)))=_
  rw[ay,List.drop_left,Et (xM d) h4,Option.bind_some]
  unfold sm
  have hk:kOf (bg k (rs.length+1)) (r::rs).length=some k:=by
   have:=Kf (m:=(r::rs).length) (k:=k) h1 (by simpa using h2) (by simpa using h3)
   rw[show(((r::rs).length:Nat):Int)=(rs.length:Int)+1 by simp] at this
   exact this
  rw[if_pos (by simpa using h3)]
  show(kOf (bg k (rs.length+1)) (r::rs).length).map _=_
  rw[hk,Option.map_some]
  congr 2
  show(bg k (rs.length+1)).length+((txt d r).length+(rs.flatMap λx=>44::32::txt d x).length+1)=_
  rw[eZ,ay]
  simp
  lia
def rdR(s:Str):Option T:=(pr 5 (tl s)).bind λa=>if a.2=s.length/\(hwd 5 a.1).length≤20 then some a.1 else none
theorem rV(s:Str)(t:T):rdR s=some t↔IsR 5 t/\txt 5 t=tl s/\(hwd 5 t).length≤20:=by
 unfold rdR
 constructor
 ·intro h
  obtain⟨⟨u,n⟩,hp,h⟩:=Option.bind_eq_some_iff.mp h
  by_cases c:n=s.length/\(hwd 5 u).length≤20
  ·rw[if_pos c] at h
   cases h
   obtain⟨a1,a2,post,a3⟩:=oI 5 _ _ _ hp
   refine⟨a1,?_,c.2⟩
   have hl:=congrArg List.length a3
   rw[← ay,List.length_append] at hl
   have:post=[]:=List.eq_nil_of_length_eq_zero (by have:=c.1;lia)
   rw[a3,this,List.append_nil]
  ·rw[if_neg c] at h;cases h
 ·rintro⟨h1,h2,h3⟩
  have:=xM 5 t [] h1 (by simp)
  rw[List.append_nil,h2] at this
  rw[this,Option.bind_some]
  exact if_pos ⟨by rw[ay],h3⟩
theorem jB{s:Str}(hl:s.length≤2000000)(μ:aa):aZ [.val (.str s)] μ=res (rdR s) μ:=by
 have e1:=Es hl 5 24 0 (by lia) (by lia) [] (tl s) μ rfl
 rw[show((([]:List Nat).length:Nat):Int)=0 from rfl] at e1
 have e3:jg μ (.val (.str s))=some (.int (s.length:Int)):=if_pos (by rw[szL];lia)
 unfold aZ gI rdR
 cases hp:pr 5 (tl s) with
 | none =>
  rw[hp] at e1
  have e1:_=(Fw.R.err (α:=SV) (.exc "NoRule" none) μ):=e1
  rw[Option.bind_none,res_none]
  simp?! only[iz,fE,i0,isK,e1,toS_err,b_,bM,List.take_length]
 | some a =>
  obtain⟨t,n⟩:=a
  rw[hp] at e1
  have e1:_=(Fw.R.ok (α:=SV) (.val (.tup [t,.int ((0:Int)+n)])) μ):=e1
  rw[Int.zero_add] at e1
  obtain⟨ht,_⟩:=oI 5 _ _ _ hp
  have e2:=D1 (F:=cN) (λ_=>rfl) 5 7 t ht (by lia) (by lia) μ
  rw[Option.bind_some]
  show _=res (if n=s.length/\(hwd 5 t).length≤20 then some t else none) μ
  by_cases c1:n=s.length
  ·have d1:(!((n:Int)==(s.length:Int)))=false:=by rw[c1];simp
   by_cases c2:(hwd 5 t).length≤20
   ·rw[if_pos ⟨c1,c2⟩,res_some]
    have d2:decide ((20:Int)<((hwd 5 t).length:Int))=false:=decide_eq_false (by lia)
    simp?! only[iz,fE,i0,isK,e1,e3,d1,e2,List.length_map,d2,fy,rS]
   ·rw[if_neg λz=>c2 z.2,res_none]
    have d2:decide ((20:Int)<((hwd 5 t).length:Int))=true:=decide_eq_true (by lia)
    simp?! only[iz,fE,i0,isK,e1,e3,d1,e2,List.length_map,d2,cR,toS_err,b_,bM,List.take_length]
  ·rw[if_neg λz=>c1 z.1,res_none]
   have d1:(!((n:Int)==(s.length:Int)))=true:=by
    have:((n:Int)==(s.length:Int))=false:=by rw[beq_eq_false_iff_ne];exact λz=>c1 (by lia)
    rw[this];rfl
   simp?! only[iz,fE,i0,isK,e1,e3,d1,cR,toS_err,b_,bM,List.take_length]
theorem ma{t:T}(h:isT .str t=some (.bl false))(μ:aa):aZ [.val t] μ=res none μ:=by
 unfold aZ gI
 rw[res_none]
 simp?! only[iz,fE,h,cR,b_,bM,List.take_length]
def wfB(w:List Nat)(m:Nat):Bool :=
 if w=[97,108,108] then decide (1≤m/\m≤10) else if w=[111,110,101] then decide (2≤m/\m≤10) else
 match w with
 | [a,b,c,d]=>decide (b=32/\c=111/\d=102) && (decide (50≤a/\a≤57) && decide (a<m+48/\m≤10))
 | _=>false
theorem xN(m:Nat):hdl m m=[97,108,108]++[32,40]:=by
 unfold hdl bg
 rw[if_pos rfl];decide +kernel
theorem xO(m:Nat)(h:2≤m):hdl 1 m=[111,110,101]++[32,40]:=by
 unfold hdl bg
 rw[if_neg (by lia),if_pos rfl];decide +kernel
theorem AD:∀k∈List.range 10,tl (toString (k:Int):Str)=[k+48]:=by decide +kernel
theorem Eu{k:Int}{m:Nat}(h1:2≤k)(h2:k<m)(h3:m≤10):hdl k m=[k.toNat+48,32,111,102]++[32,40]:=by
 unfold hdl bg
 rw[if_neg (by lia),if_neg (by lia),jY]
 have:=AD k.toNat (List.mem_range.mpr (by lia))
 rw[show((k.toNat:Nat):Int)=k by lia] at this
 rw[this,show tl (" of (":Str)=[32,111,102,32,40] by decide +kernel]
 rfl
theorem Kh{k:Int}{m:Nat}{w:List Nat}(h1:1≤k)(h2:k≤m)(h3:m≤10)(e:hdl k m=w++[32,40]):wfB w m=true:=by
 by_cases c1:k=m
 ·subst c1
  rw[xN] at e
  have e:=List.append_cancel_right e
  subst e
  unfold wfB
  rw[if_pos rfl]
  exact decide_eq_true (by lia)
 ·by_cases c2:k=1
  ·subst c2
   rw[xO m (by lia)] at e
   have e:=List.append_cancel_right e
   subst e
   unfold wfB
   rw[if_neg (by decide),if_pos rfl]
   exact decide_eq_true (by lia)
  ·rw[Eu (by lia) (by lia) h3] at e
   have e:=List.append_cancel_right e
   subst e
   unfold wfB
   rw[if_neg (by simp),if_neg (by simp)]
   show(decide (32=32/\111=111/\102=102) && (decide (50≤k.toNat+48/\k.toNat+48≤57) && decide (k.toNat+48<m+48/\m≤10)))=true
   rw[decide_eq_true (by decide),decide_eq_true (by lia),decide_eq_true (by lia)];rfl
theorem Ki{m:Nat}{w:List Nat}(h:wfB w m=true):∃k:Int,1≤k/\k≤m/\m≤10/\hdl k m=w++[32,40]:=by
 unfold wfB at h
 by_cases c1:w=[97,108,108]
 ·rw[if_pos c1] at h
  have h:=of_decide_eq_true h
  exact⟨m,by lia,by lia,h.2,by rw[c1];exact xN m⟩
 ·rw[if_neg c1] at h
  by_cases c2:w=[111,110,101]
  ·rw[if_pos c2] at h
   have h:=of_decide_eq_true h
   exact⟨1,by lia,by lia,h.2,by rw[c2];exact xO m h.1⟩
  ·rw[if_neg c2] at h
   match w,h with
   | [a,b,c,d],h =>
    rw[Bool.and_eq_true,Bool.and_eq_true,decide_eq_true_iff,decide_eq_true_iff,decide_eq_true_iff] at h
    obtain⟨⟨rfl,rfl,rfl⟩,h2,h3⟩:=h
    refine⟨((a-48:Nat):Int),by lia,by lia,h3.2,?_⟩
    rw[Eu (by lia) (by lia) h3.2,show((a-48:Nat):Int).toNat+48=a by lia]
   | [],h=>cases h
   | [_],h=>cases h
   | [_,_],h=>cases h
   | [_,_,_],h=>cases h
   | _::_::_::_::_::_,h=>cases h
theorem uC{a b c:Int}{da db dc:D}{e:Slots}{μ:aa}(h1:da e μ=.ok (.val (.int a)) μ)(h2:db e μ=.ok (.val (.int b)) μ)(h3:dc e μ=.ok (.val (.int c)) μ):eF fLe fLe da db dc e μ=.ok (.val (.bl (decide (a≤b/\b≤c)))) μ:=by
 rw[pv,h1,R.aQ,h2,R.aQ]
 by_cases z:a≤b
 ·rw[show decide (a≤b/\b≤c)=decide (b≤c) by simp[z]]
  simp?! only[h3,z]
  simp
 ·rw[show decide (a≤b/\b≤c)=false by simp[z]]
  simp?! only[z]
  simp
theorem Ew{a b c:Int}{da db dc:D}{e:Slots}{μ:aa}(h1:da e μ=.ok (.val (.int a)) μ)(h2:db e μ=.ok (.val (.int b)) μ)(h3:dc e μ=.ok (.val (.int c)) μ):eF fLt fLe da db dc e μ=.ok (.val (.bl (decide (a<b/\b≤c)))) μ:=by
 rw[pv,h1,R.aQ,h2,R.aQ]
 by_cases z:a<b
 ·rw[show decide (a<b/\b≤c)=decide (b≤c) by simp[z]]
  simp?! only[h3,z]
  simp
 ·rw[show decide (a<b/\b≤c)=false by simp[z]]
  simp?! only[z]
  simp
theorem uD(x y:Str):(x==y)=decide (tl x=tl y):=by
 rw[Bool.eq_iff_iff,beq_iff_eq,decide_eq_true_iff]
 exact⟨λh=>by rw[h],cz⟩
theorem AE:∀a∈List.range 8,PySem.intText? ⟨#[a+50]⟩=some ((a:Int)+2):=by decide +kernel
theorem digits:tl ("23456789":Str)=(List.range 8).map (·+50):=by decide +kernel
theorem Mw(a:Nat):dM (.str ⟨#[a]⟩) (.str "23456789")=some (.bl (decide (50≤a/\a≤57))):=by
 show some (T.bl (!(Builtin.Str.occurrences ("23456789":Str) ⟨#[a]⟩ 0 ("23456789":Str).length 1).isEmpty))=_
 rw[oB]
 congr 2
 rw[Bool.eq_iff_iff,decide_eq_true_iff,decide_eq_true_iff,digits,List.mem_map]
 constructor
 ·rintro⟨i,hi,rfl⟩
  have:=List.mem_range.mp hi
  lia
 ·exact λh=>⟨a-50,List.mem_range.mpr (by lia),by lia⟩
theorem Ey(w:Str)(m:Nat)(hw:w.length≤2000000)(μ:aa):bL [.val (.str w),.val (.int m)] μ=.ok (.val (.bl (wfB (tl w) m))) μ:=by
 have t1:tl ("all":Str)=[97,108,108]:=by decide +kernel
 have t2:tl ("one":Str)=[111,110,101]:=by decide +kernel
 have t3:tl (" of":Str)=[32,111,102]:=by decide +kernel
 have e1:=uD w "all"
 have e2:=uD w "one"
 rw[t1] at e1
 rw[t2] at e2
 have el:jg μ (.val (.str w))=some (.int (w.length:Int)):=if_pos (by rw[szL];lia)
 unfold bL gu wfB
 by_cases c1:tl w=[97,108,108]
 ·rw[decide_eq_true c1] at e1
  rw[if_pos c1]
  have ch:=uC (a:=1) (b:=m) (c:=10) (da:=dC (.int 1)) (db:=ae 1) (dc:=dC (.int 10)) (e:=[some (.val (.str w)),some (.val (.int m))]) (μ:=μ) (by simp?! only[]) (by simp?! only[]) (by simp?! only[])
  generalize eF fLe fLe (dC (.int 1)) (ae 1) (dC (.int 10))=D at ch
  rw[show decide ((1:Int)≤m/\(m:Int)≤10)=decide (1≤m/\m≤10) by congr 1;exact propext (by lia)] at ch
  simp?! only[e1,ch]
 ·rw[decide_eq_false c1] at e1
  rw[if_neg c1]
  by_cases c2:tl w=[111,110,101]
  ·rw[decide_eq_true c2] at e2
   rw[if_pos c2]
   have ch:=uC (a:=2) (b:=m) (c:=10) (da:=dC (.int 2)) (db:=ae 1) (dc:=dC (.int 10)) (e:=[some (.val (.str w)),some (.val (.int m))]) (μ:=μ) (by simp?! only[]) (by simp?! only[]) (by simp?! only[])
   generalize eF fLe fLe (dC (.int 2)) (ae 1) (dC (.int 10))=D at ch
   rw[show decide ((2:Int)≤m/\(m:Int)≤10)=decide (2≤m/\m≤10) by congr 1;exact propext (by lia)] at ch
   simp?! only[e1,e2,ch]
  ·rw[decide_eq_false c2] at e2
   rw[if_neg c2]
   by_cases c3:w.length=4
   ·obtain⟨a,b,c,d,hw4⟩:∃a b c d,tl w=[a,b,c,d]:=by
     rw[ay] at c3
     match hq:tl w,c3 with
     | [a,b,c,d],_=>exact⟨a,b,c,d,rfl⟩
    rw[hw4]
    show _=R.ok (SV.val (.bl (decide (b=32/\c=111/\d=102) && (decide (50≤a/\a≤57) && decide (a<m+48/\m≤10))))) μ
    have d3:((w.length:Int)==4)=true:=by rw[c3];rfl
    have ec:iJ (.str w) (some 1) none=some (.str (dS w (some 1) none)):=fx (by rw[szL];lia)
    have e4:(dS w (some 1) none==" of")=decide (b=32/\c=111/\d=102):=by
     rw[uD,t3,show(some (1:Int))=some ((1:Nat):Int) from rfl,xy,hw4]
     simp
    have e5:iy μ (.val (.str w)) (.int 0)=some (.val (.str ⟨#[a]⟩)):=by
     rw[dJ]
     show(if w.length≤szL then (atI (tl w) 0).map λc=>T.str ⟨#[c]⟩ else none).map SV.val=_
     rw[if_pos (by rw[szL];lia),hw4];rfl
    have e6:=Mw a
    by_cases c4:b=32/\c=111/\d=102
    ·rw[decide_eq_true c4] at e4 ⊢
     by_cases c5:50≤a/\a≤57
     ·rw[decide_eq_true c5] at e6 ⊢
      have ei:pO (.str ⟨#[a]⟩)=some (.int ((a:Int)-48)):=by
       have:=AE (a-50) (List.mem_range.mpr (by lia))
       rw[show a-50+50=a by lia] at this
       show(if (⟨#[a]⟩:Str).length≤640 then (PySem.intText? ⟨#[a]⟩).map T.int else none)=_
       rw[if_pos (show(⟨#[a]⟩:Str).length≤640 from(by decide:(1:Nat)≤640)),this,Option.map_some]
       congr 2
       lia
      have ch:=Ew (a:=(a:Int)-48) (b:=m) (c:=10) (da:=dUn pO (aF (ae 0) (dC (.int 0)))) (db:=ae 1) (dc:=dC (.int 10)) (e:=[some (.val (.str w)),some (.val (.int m))]) (μ:=μ) (by simp?! only[e5,ei]) (by simp?! only[]) (by simp?! only[])
      generalize eF fLt fLe (dUn pO (aF (ae 0) (dC (.int 0)))) (ae 1) (dC (.int 10))=D at ch
      rw[show decide ((a:Int)-48<m/\(m:Int)≤10)=decide (a<m+48/\m≤10) by congr 1;exact propext (by lia)] at ch
      rw[Bool.true_and,Bool.true_and]
      simp?! only[e1,e2,el,d3,bT,ec,e4,e5,e6,ch]
     ·rw[decide_eq_false c5] at e6 ⊢
      rw[Bool.true_and,Bool.false_and]
      simp?! only[e1,e2,el,d3,bT,ec,e4,e5,e6]
    ·rw[decide_eq_false c4] at e4 ⊢
     rw[Bool.false_and]
     simp?! only[e1,e2,el,d3,bT,ec,e4]
   ·have d3:((w.length:Int)==4)=false:=by rw[beq_eq_false_iff_ne];lia
    have z:(match tl w with
     | [a,b,c,d]=>decide (b=32/\c=111/\d=102) && (decide (50≤a/\a≤57) && decide (a<m+48/\m≤10))
     | _=>false)=false:=by
     rw[ay] at c3
     revert c3
     match tl w with
     | [a,b,c,d]=>exact λc3=>absurd rfl c3
     | []=>exact λ_=>rfl
     | [_]=>exact λ_=>rfl
     | [_,_]=>exact λ_=>rfl
     | [_,_,_]=>exact λ_=>rfl
     | _::_::_::_::_::_=>exact λ_=>rfl
    rw[z]
    simp?! only[e1,e2,el,d3]
def lv(w:Str):Option Nat:=match tl w with
 | [c]=>if isH c=true∨isS c=true then some c else none
 | _=>none
def lvs:List Str->Option (List Nat)
 | []=>some []
 | w::ws=>(lv w).bind λc=>(lvs ws).map (c::·)
theorem G_{w:Str}{c:Nat}(h:lv w=some c):w=⟨#[c]⟩/\Lf c:=by
 unfold lv at h
 match e:tl w,h with
 | [b],h =>
  have h:(if isH b=true∨isS b=true then some b else none)=some c:=h
  by_cases q:isH b=true∨isS b=true
  ·rw[if_pos q] at h
   cases h
   exact⟨cz e,q⟩
  ·rw[if_neg q] at h;cases h
theorem Ib{c:Nat}(h:Lf c):lv ⟨#[c]⟩=some c:=if_pos h
theorem uE:∀{ws:List Str}{ls:List Nat},lvs ws=some ls->ws=ls.map (λc=>(⟨#[c]⟩:Str))/\∀c∈ls,Lf c
 | [],ls,h=>by cases h;exact⟨rfl,λc hc=>(by cases hc)⟩
 | w::ws,ls,h=>by
  obtain⟨c,hc,h⟩:=Option.bind_eq_some_iff.mp (show(lv w).bind (λc=>(lvs ws).map (c::·))=some ls from h)
  obtain⟨ls',hl,rfl⟩:=Option.map_eq_some_iff.mp h
  obtain⟨a1,a2⟩:=G_ hc
  obtain⟨b1,b2⟩:=uE hl
  refine⟨by rw[List.map_cons,← b1,a1],λx hx=>?_⟩
  rcases List.mem_cons.mp hx with rfl|hx
  ·exact a2
  ·exact b2 x hx
theorem Ez:∀{ls:List Nat},(∀c∈ls,Lf c)->lvs (ls.map λc=>(⟨#[c]⟩:Str))=some ls
 | [],_=>rfl
 | c::ls,h=>by
  show(lv ⟨#[c]⟩).bind (λc=>(lvs (ls.map λc=>(⟨#[c]⟩:Str))).map (c::·))=_
  rw[Ib (h c List.mem_cons_self),Option.bind_some,Ez λx hx=>h x (List.mem_cons_of_mem _ hx)];rfl
def kX:DS:=(aq (sIf (dOr (ah fNe (cC (ae 7)) (dC (.int 1))) (ah ko (ae 7) (dC (.str "abcdefghij#$&*!")))) (aK (dC (.non))) a6)
 (aq (az 5 (ah yL (ae 5) (ah av (bw pR (dC (.str "#$&*!")) (ae 7)) (dC (.int 1)))))
 (az 6 (ah av (ae 6) (dUn yO (ah dM (ae 7) (dC (.str "abcdefghij"))))))))
theorem xP(c:Nat):(c∈tl ("abcdefghij#$&*!":Str))↔Lf c:=by
 rw[show tl ("abcdefghij#$&*!":Str)=tl ("abcdefghij":Str)++[35,36,38,42,33] by decide +kernel,List.mem_append,rT]
 unfold Lf isS
 simp only[List.mem_cons,List.not_mem_nil,or_false,Bool.or_eq_true,beq_iff_eq]
 simp only[or_assoc]
theorem Ha:∀i∈List.range 5,Txt.find ("#$&*!":Str) ⟨#[sgn i]⟩=(i:Int):=by decide +kernel
theorem Hb{c:Nat}(h:Lf c):Txt.find ("#$&*!":Str) ⟨#[c]⟩+1=(ld c:Int):=by
 rcases h with h|h
 ·rw[rO h]
  have:∀i∈List.range 10,Txt.find ("#$&*!":Str) ⟨#[i+97]⟩=-1:=by decide +kernel
  have hc:97≤c/\c<107:=of_decide_eq_true h
  have:=this (c-97) (List.mem_range.mpr (by lia))
  rw[show c-97+97=c by lia] at this
  rw[this];rfl
 ·obtain⟨i,hi,rfl⟩:=kT h
  rw[Ha i (List.mem_range.mpr hi),(ib i hi).1];simp
theorem Mx(c:Nat):dM (.str ⟨#[c]⟩) (.str "abcdefghij")=some (.bl (isH c)):=by
 show some (T.bl (!(Builtin.Str.occurrences ("abcdefghij":Str) ⟨#[c]⟩ 0 ("abcdefghij":Str).length 1).isEmpty))=_
 rw[oB]
 congr 2
 rw[Bool.eq_iff_iff,decide_eq_true_iff]
 exact rT c
theorem p6(x0 x1 x2 x3 x4:Option SV)(μ:aa):∀(ws:List Str) (a n:Nat) (x7:Option SV),(∀w∈ws,w.length≤2000000)->∃y,forL (λ_=>True) (aS 7) kX (ws.map T.str) [x0,x1,x2,x3,x4,some (.val (.int a)),some (.val (.int n)),x7] μ =
  match lvs ws with
  | some ls=>.nx [x0,x1,x2,x3,x4,some (.val (.int (dpf a ls))),some (.val (.int ((n+(ls.map hn).sum:Nat)))),y] μ
  | none=>.rt (.val .non) μ
 | [],a,n,x7,_=>⟨x7,by simp[forL,lvs,dpf]⟩
 | w::ws,a,n,x7,h=>by
  have el:jg μ (.val (.str w))=some (.int (w.length:Int)):=if_pos (by rw[szL];have:=h w List.mem_cons_self;lia)
  rw[List.map_cons,forL,if_pos trivial]
  simp only[eg,List.set_cons_succ,List.set_cons_zero]
  rw[show lvs (w::ws)=(lv w).bind (λc=>(lvs ws).map (c::·)) from rfl]
  by_cases c1:w.length=1
  ·obtain⟨c,hc⟩:∃c,tl w=[c]:=by
    rw[ay] at c1
    match hq:tl w,c1 with
    | [c],_=>exact⟨c,rfl⟩
   have hw:w=⟨#[c]⟩:=cz hc
   subst hw
   have d1:(!(((⟨#[c]⟩:Str).length:Int)==1))=false:=by rw[c1];rfl
   have e2:ko (.str ⟨#[c]⟩) (.str "abcdefghij#$&*!")=some (.bl (!decide (Lf c))):=by
    show some (T.bl (!(!(Builtin.Str.occurrences ("abcdefghij#$&*!":Str) ⟨#[c]⟩ 0 ("abcdefghij#$&*!":Str).length 1).isEmpty)))=_
    rw[oB]
    congr 3
    rw[Bool.eq_iff_iff,decide_eq_true_iff,decide_eq_true_iff]
    exact xP c
   by_cases c2:Lf c
   ·rw[decide_eq_true c2] at e2
    have ef:pR "#$&*!" (.str ⟨#[c]⟩)=some (.int (Txt.find ("#$&*!":Str) ⟨#[c]⟩)):=rfl
    have hf:=Hb c2
    have em:yL (.int a) (.int (ld c))=some (.int ((max a (ld c):Nat))):=by
     rw[B8]
     congr 2
     split<;>lia
    have ei:=Mx c
    have eh:(n:Int)+(if isH c=true then 1 else 0)=((n+hn c:Nat):Int):=by
     unfold hn
     split<;>simp
    have hb:kX [x0,x1,x2,x3,x4,some (.val (.int a)),some (.val (.int n)),some (.val (.str ⟨#[c]⟩))] μ=.nx [x0,x1,x2,x3,x4,some (.val (.int ((max a (ld c):Nat)))),some (.val (.int ((n+hn c:Nat)))),some (.val (.str ⟨#[c]⟩))] μ:=by
     unfold kX
     simp?! only[el,d1,e2,fk,aV,ef,hf,em,ei,eh]
    obtain⟨y,ih⟩:=p6 x0 x1 x2 x3 x4 μ ws (max a (ld c)) (n+hn c) (some (.val (.str ⟨#[c]⟩))) λv hv=>h v (List.mem_cons_of_mem _ hv)
    refine⟨y,?_⟩
    rw[hb,Ib c2,Option.bind_some]
    show forL _ _ _ _ _ _=_
    rw[ih]
    cases lvs ws with
    | none=>rfl
    | some ls =>
     show RS.nx _ _=RS.nx _ _
     rw[oE,List.map_cons,List.sum_cons,Nat.add_assoc]
   ·rw[decide_eq_false c2] at e2
    have hb:kX [x0,x1,x2,x3,x4,some (.val (.int a)),some (.val (.int n)),some (.val (.str ⟨#[c]⟩))] μ=.rt (.val .non) μ:=by
     unfold kX
     simp?! only[el,d1,e2]
    refine⟨none,?_⟩
    rw[hb,show lv ⟨#[c]⟩=none from if_neg c2];rfl
  ·have d1:(!((w.length:Int)==1))=true:=by
    have:((w.length:Int)==1)=false:=by rw[beq_eq_false_iff_ne];lia
    rw[this];rfl
   have hb:kX [x0,x1,x2,x3,x4,some (.val (.int a)),some (.val (.int n)),some (.val (.str w))] μ=.rt (.val .non) μ:=by
    unfold kX
    simp?! only[el,d1]
   have hv:lv w=none:=by
    unfold lv
    rw[ay] at c1
    revert c1
    match tl w with
    | [c]=>exact λc1=>absurd rfl c1
    | []=>exact λ_=>rfl
    | _::_::_=>exact λ_=>rfl
   refine⟨none,?_⟩
   rw[hb,hv];rfl
abbrev so(l:List Nat):Str:=⟨l.toArray⟩
theorem fA(l:List Nat):tl (so l)=l:=by simp[tl]
theorem j3(l:List Nat):(so l).length=l.length:=by rw[ay,fA]
theorem rW:("(":Str)=⟨#[40]⟩:=cz (by decide +kernel)
theorem Hd:(")":Str)=⟨#[41]⟩:=cz (by decide +kernel)
def tkv:Option (List Nat×Nat)->T
 | none=>.non
 | some a=>.tup [.str (so a.1),.int (a.2:Nat)]
def outD(pre w' I post:List Nat):Option (List Nat×Nat) :=
 if wfB w'.dropLast (Txt.split (so I) cm).length=true then (lvs (Txt.split (so I) cm)).bind λls=>if dpf 0 ls=5 then none else some (pre++sgn (dpf 0 ls)::post,(ls.map hn).sum) else none
theorem AF{t:Str}(h:t.length≤2000000):ny t (.str ", ")=some (.lst ((Txt.split t cm).map T.str)):=by
 show(if ((", ":Str).length==0)=false/\t.length≤szL/\(Txt.split t cm).length≤szL then some (T.lst ((Txt.split t cm).map T.str)) else none)=_
 have h2:=wk (sep:=cm) (by rw[ia];decide) t
 rw[if_pos ⟨by rw[mF];rfl,by unfold szL;lia,by unfold szL;lia⟩]
section
variable{s:Str}{P R:List Nat}
abbrev sl(s:Str)(x1 x2 x3 x4 x5 x6 x7:Option SV):Slots:=[some (.val (.str s)),x1,x2,x3,x4,x5,x6,x7]
theorem tk0{b:Nat}(hb:b=P.length)(hs:tl s=P++40::R)(hR:40∉R)(μ:aa):gJ (sl s none none none none none none none) μ=.nx (sl s (some (.val (.int b))) none none none none none none) μ:=by
 have e:nD s (.str "(")=some (.int b):=by
  show some (T.int (Txt.rfind s "("))=_
  rw[rW,G5 hs hR,hb]
 unfold gJ
 simp?! only[fk,aV,e]
theorem tk1{i j:Int}(e:Txt.find3 s ⟨#[41]⟩ i=j)(μ:aa):gK (sl s (some (.val (.int i))) none none none none none none) μ=.nx (sl s (some (.val (.int i))) (some (.val (.int j))) none none none none none) μ:=by
 rw[← Hd] at e
 unfold gK
 simp?! only[ze,aV,e]
theorem Nq{i j:Int}(h:i<1)(x3 x4 x5 x6 x7:Option SV)(μ:aa):bP (sl s (some (.val (.int i))) (some (.val (.int j))) x3 x4 x5 x6 x7) μ=.rt (.val .non) μ:=by
 have d:decide (i<1)=true:=decide_eq_true h
 unfold bP
 simp?! only[d]
theorem Nr{i j:Int}(h:¬ i<1)(hj:j<0)(x3 x4 x5 x6 x7:Option SV)(μ:aa):bP (sl s (some (.val (.int i))) (some (.val (.int j))) x3 x4 x5 x6 x7) μ=.rt (.val .non) μ:=by
 have d:decide (i<1)=false:=decide_eq_false h
 have d2:decide (j<0)=true:=decide_eq_true hj
 unfold bP
 simp?! only[d,d2]
theorem My{z:List Nat}{c b:Nat}{j:Int}(hb:b=z.length+1)(hs:tl s=(z++[c])++R)(hl:s.length≤2000000)(hj:¬ j<0)(x3 x4 x5 x6 x7:Option SV)(μ:aa):bP (sl s (some (.val (.int b))) (some (.val (.int j))) x3 x4 x5 x6 x7) μ =
  if c=32 then .nx (sl s (some (.val (.int b))) (some (.val (.int j))) x3 x4 x5 x6 x7) μ else .rt (.val .non) μ:=by
 have d:decide ((b:Int)<1)=false:=decide_eq_false (by lia)
 have d2:decide (j<0)=false:=decide_eq_false hj
 have e5:iy μ (.val (.str s)) (.int ((b:Int)-1))=some (.val (.str ⟨#[c]⟩)):=by
  rw[dJ]
  show(if s.length≤szL then (atI (tl s) ((b:Int)-1)).map λc=>T.str ⟨#[c]⟩ else none).map SV.val=_
  rw[if_pos (by rw[szL];lia),fF (by lia),show((b:Int)-1).toNat=z.length by lia,hs]
  simp
 have e6:((⟨#[c]⟩:Str)==" ")=decide (c=32):=by
  rw[uD,show tl (" ":Str)=[32] by decide +kernel]
  simp[tl]
 unfold bP
 by_cases q:c=32
 ·rw[decide_eq_true q] at e6
  rw[if_pos q]
  simp?! only[d,d2,e5,e6]
 ·rw[decide_eq_false q] at e6
  rw[if_neg q]
  simp?! only[d,d2,e5,e6]
theorem tk3{I post:List Nat}{b j:Nat}(hb:b=P.length)(hj:j=P.length+(I.length+1))(hs:tl s=P++40::(I++41::post))(hl:s.length≤2000000)(μ:aa):gL (sl s (some (.val (.int b))) (some (.val (.int j))) none none none none none) μ =
  .nx (sl s (some (.val (.int b))) (some (.val (.int j))) (some (.val (.lst ((Txt.split (so I) cm).map T.str)))) none none none none) μ:=by
 have hI:I.length≤2000000:=by
  rw[ay,hs] at hl
  simp at hl
  lia
 have ec:iJ (.str s) (some ((b:Int)+1)) (some (j:Int))=some (.str (so I)):=by
  rw[fx (by rw[szL];lia)]
  congr 2
  apply cz
  rw[fA I,show(b:Int)+1=((b+1:Nat):Int) by simp,rL,hs,List.drop_take,hb,hj,← List.drop_drop,List.drop_left]
  simp
  rw[show P.length+(I.length+1)-(P.length+1)=I.length by lia,List.take_left]
 have es:=AF (t:=so I) (by rw[j3];exact hI)
 unfold gL
 simp?! only[fk,bT,ec,aV,es]
theorem Nt{pre w':List Nat}{b:Nat}(hb:b=(pre++w').length)(hs:tl s=(pre++w')++R)(hl:s.length≤2000000)(hF:j0 pre)(hw:40∉w')(hn:oA w')(x2 x3 x5 x6 x7:Option SV)(K:DS)(μ:aa) :
  aq ft (aq cI K) (sl s (some (.val (.int b))) x2 x3 none x5 x6 x7) μ=K (sl s (some (.val (.int b))) x2 x3 (some (.val (.int pre.length))) x5 x6 x7) μ:=by
 have EA:∀r:Int,rf4 s ⟨#[40]⟩ 0 b=r->ft (sl s (some (.val (.int b))) x2 x3 none x5 x6 x7) μ=.nx (sl s (some (.val (.int b))) x2 x3 (some (.val (.int (r+1)))) x5 x6 x7) μ:=λr e=>by
  rw[← rW] at e
  unfold ft
  simp?! only[nE,aV,e]
 have Ic:∀a:Nat,∃x:Str,iJ (.str s) (some (a:Int)) (some (b:Int))=some (.str x)/\tl x=(pre++w').drop a:=λa=>by
  refine⟨_,fx (by rw[szL];lia),?_⟩
  rw[rL,hs,hb,List.take_left]
 have EB:∀a:Nat,oA ((pre++w').drop a)->cI (sl s (some (.val (.int b))) x2 x3 (some (.val (.int a))) x5 x6 x7) μ=.nx (sl s (some (.val (.int b))) x2 x3 (some (.val (.int a))) x5 x6 x7) μ:=λa h=>by
  obtain⟨x,ex,tx⟩:=Ic a
  have ei:dM (.str ", ") (.str x)=some (.bl false):=by
   show some (T.bl (!(Builtin.Str.occurrences x cm 0 x.length 1).isEmpty))=_
   congr 2
   rw[← Bool.not_eq_true,xC,tx]
   exact λz=>z h
  unfold cI
  simp?! only[bT,ex,ei]
 have Kj:∀(a:Nat) (r:Int),¬ oA ((pre++w').drop a)->rf4 s cm 0 b=r->cI (sl s (some (.val (.int b))) x2 x3 (some (.val (.int a))) x5 x6 x7) μ=.nx (sl s (some (.val (.int b))) x2 x3 (some (.val (.int (r+2)))) x5 x6 x7) μ:=λa r h e=>by
  obtain⟨x,ex,tx⟩:=Ic a
  have ei:dM (.str ", ") (.str x)=some (.bl true):=by
   show some (T.bl (!(Builtin.Str.occurrences x cm 0 x.length 1).isEmpty))=_
   congr 2
   rw[xC,tx]
   exact h
  have e:rf4 s ", " 0 b=r:=e
  unfold cI
  simp?! only[bT,ex,ei,nE,aV,e]
 rw[kf]
 rcases hF with rfl|⟨z,rfl⟩|⟨z,rfl⟩
 ·have e1:rf4 s ⟨#[40]⟩ 0 b=-1:=by rw[hb];exact Ee hs (by simpa using hw)
  have e2:=EB 0 (by simpa using hn)
  rw[EA (-1) e1,RS.aM,kf]
  have e2:cI (sl s (some (.val (.int b))) x2 x3 (some (.val (.int (-1+1)))) x5 x6 x7) μ=_:=e2
  rw[e2,RS.aM];rfl
 ·have e1:rf4 s ⟨#[40]⟩ 0 b=(z.length:Int):=by
   have hs2:tl s=(z++40::w')++R:=by rw[hs];simp
   have hb2:b=(z++40::w').length:=by rw[hb];simp
   rw[hb2]
   exact HZ hs2 hw
  have e3:(z.length:Int)+1=(((z++[40]).length:Nat):Int):=by simp
  obtain⟨m,hm⟩:∃m,m=List.length (z++[40]):=⟨_,rfl⟩
  have e5:=EB m (by rw[hm,List.drop_left];exact hn)
  rw[EA _ e1,RS.aM,kf,e3,← hm,e5,RS.aM]
 ·have e2:rf4 s cm 0 b=(z.length:Int):=by
   have hs2:tl s=(z++44::32::w')++R:=by rw[hs];simp
   have hb2:b=(z++44::32::w').length:=by rw[hb];simp
   rw[hb2]
   exact G6 hs2 hn
  have key:∃a:Nat,a≤z.length/\rf4 s ⟨#[40]⟩ 0 b=(a:Int)-1:=by
   by_cases q:40∈z
   ·obtain⟨z1,y,z2,e,hy,hz⟩:=ic (p:=λc=>c=40) z ⟨40,q,rfl⟩
    have hy:y=40:=hy
    subst hy
    subst e
    have hs2:tl s=(z1++40::(z2++[44,32]++w'))++R:=by rw[hs];simp
    have hb2:b=(z1++40::(z2++[44,32]++w')).length:=by rw[hb];simp
    have:=HZ hs2 (by
     simp only[List.mem_append,List.mem_cons,List.not_mem_nil,or_false]
     rintro ((h|h)|h)
     ·exact hz 40 h rfl
     ·lia
     ·exact hw h)
    refine⟨z1.length+1,by simp,?_⟩
    rw[hb2,this]
    simp
   ·refine⟨0,Nat.zero_le _,?_⟩
    rw[hb,Ee hs (by
     simp only[List.mem_append,List.mem_cons,List.not_mem_nil,or_false]
     rintro ((h|h)|h)
     ·exact q h
     ·lia
     ·exact hw h)]
    rfl
  obtain⟨a,ha,e1⟩:=key
  have e3:(a:Int)-1+1=(a:Int):=by lia
  have e4:(z.length:Int)+2=(((z++[44,32]).length:Nat):Int):=by simp
  rw[EA _ e1,RS.aM,kf,e3,Kj a _ (λh=>?_) e2,RS.aM,e4]
  refine h (z.drop a) w' ?_
  rw[List.append_assoc,List.drop_append_of_le_length ha]
  rfl
end
theorem tk6{s:Str}{pre w' R:List Nat}{b a:Nat}(hb:b=(pre++w').length)(ha:a=pre.length)(hs:tl s=(pre++w')++R)(hl:s.length≤2000000)(ws:List T)(hz:∃z,pre++w'=z++[32])(x2 x5 x6 x7:Option SV)(μ:aa) :
  gM (sl s (some (.val (.int b))) x2 (some (.val (.lst ws))) (some (.val (.int a))) x5 x6 x7) μ =
   if wfB w'.dropLast ws.length=true then .nx (sl s (some (.val (.int b))) x2 (some (.val (.lst ws))) (some (.val (.int a))) x5 x6 x7) μ else .rt (.val .non) μ:=by
 obtain⟨z,hz⟩:=hz
 have hp:(b:Int)-1=((z.length:Nat):Int):=by rw[hb,hz];simp
 obtain⟨x,ex,tx,lx⟩:∃x:Str,iJ (.str s) (some (a:Int)) (some ((b:Int)-1))=some (.str x)/\tl x=w'.dropLast/\x.length≤2000000:=by
  refine⟨_,fx (by rw[szL];lia),?_,Nat.le_trans (rM _ _ _) hl⟩
  rw[hp,rL,hs,ha]
  have e1:((pre++w')++R).take z.length=(pre++w').dropLast:=by
   rw[hz,List.append_assoc,List.take_left,List.dropLast_concat]
  rw[e1]
  cases w' with
  | nil=>rw[List.append_nil,List.drop_of_length_le (by rw[List.length_dropLast];lia)];rfl
  | cons c w'=>rw[List.dropLast_append_of_ne_nil (by simp),List.drop_left]
 have ew:=Ey x ws.length lx μ
 rw[tx] at ew
 unfold gM
 by_cases q:wfB w'.dropLast ws.length=true
 ·rw[q] at ew
  rw[if_pos q]
  simp?! only[bT,ex,ew]
 ·rw[if_neg q]
  rw[Bool.not_eq_true] at q
  rw[q] at ew
  simp?! only[bT,ex,ew]
theorem Kk:gP=fg (fB (ae 3)) (aS 7) kX:=rfl
theorem EC:∀i∈List.range 5,atI (tl ("#$&*!":Str)) (i:Int)=some (sgn i):=by decide +kernel
theorem Nu{s:Str}{pre w' I post:List Nat}{a j:Nat}(ha:a=pre.length)(hj:j=(pre++w').length+(I.length+1))(hs:tl s=(pre++w')++40::(I++41::post))(hl:s.length≤2000000){d n:Nat}(hd:d≤4)(x1 x3 x7:Option SV)(μ:aa) :
  fL (sl s x1 (some (.val (.int j))) x3 (some (.val (.int a))) (some (.val (.int d))) (some (.val (.int n))) x7) μ=.rt (.val (tkv (some (pre++sgn d::post,n)))) μ:=by
 have hlen:s.length=(pre++w').length+(I.length+1)+(post.length+1):=by rw[ay,hs];simp;lia
 have ea:iJ (.str s) none (some (a:Int))=some (.str (so pre)):=by
  rw[fx (by rw[szL];lia)]
  congr 2
  apply cz
  rw[fA pre,G3,hs,ha,List.append_assoc,List.take_left]
 have eb:iJ (.str s) (some ((j:Int)+1)) none=some (.str (so post)):=by
  rw[fx (by rw[szL];lia)]
  congr 2
  apply cz
  rw[fA post,show(j:Int)+1=(((pre++w').length+((40::I).length+1):Nat):Int) by rw[hj];simp;lia,xy,hs,← List.drop_drop,List.drop_left,show 40::(I++41::post)=(40::I)++41::post by simp,← List.drop_drop,List.drop_left]
  rfl
 have ei:iy μ (.val (.str "#$&*!")) (.int d)=some (.val (.str ⟨#[sgn d]⟩)):=by
  rw[dJ]
  show(if ("#$&*!":Str).length≤szL then (atI (tl ("#$&*!":Str)) (d:Int)).map λc=>T.str ⟨#[c]⟩ else none).map SV.val=_
  rw[if_pos (by decide +kernel),EC d (List.mem_range.mpr (by lia))];rfl
 have hpl:pre.length≤2000000:=by rw[List.length_append] at hlen;lia
 have hql:post.length≤2000000:=by lia
 have e1:av (.str (so pre)) (.str ⟨#[sgn d]⟩)=some (.str (so (pre++[sgn d]))):=add_str (by rw[j3,szL];show pre.length+1≤_;lia) (by apply cz;rw[jY,fA pre,fA (pre++[sgn d])])
 have e2:av (.str (so (pre++[sgn d]))) (.str (so post))=some (.str (so (pre++sgn d::post))):=add_str (by rw[j3,j3,szL,List.length_append];simp;lia) (by apply cz;rw[jY,fA (pre++[sgn d]),fA post,fA (pre++sgn d::post)];simp)
 unfold fL
 simp?! only[bT,ea,eb,ei,e1,e2]
 rfl
theorem sq4(K:DS):jQ=aq ft (aq cI dU):=rfl
theorem p7{s:Str}{pre w' I post:List Nat}(hl:s.length≤2000000)(hs:tl s=(pre++w')++40::(I++41::post))(h1:40∉I)(h2:40∉post)(h3:41∉I)(hF:j0 pre)(hw:40∉w')(hns:oA w')(hz:∃z,pre++w'=z++[32])(μ:aa) :
  aX [.val (.str s)] μ=.ok (.val (tkv (outD pre w' I post))) μ:=by
 have hR:40∉I++41::post:=by
  simp only[List.mem_append,List.mem_cons]
  rintro (h|h|h)
  ·exact h1 h
  ·cases h
  ·exact h2 h
 have hs':tl s=(pre++w')++((40::I)++41::post):=by rw[hs];rfl
 have h41:41∉40::I:=by
  simp only[List.mem_cons]
  rintro (h|h)
  ·cases h
  ·exact h3 h
 have ef:=xD hs' h41
 obtain⟨b,hb⟩:∃b,b=(pre++w').length:=⟨_,rfl⟩
 obtain⟨j,hj⟩:∃j,j=(pre++w').length+(I.length+1):=⟨_,rfl⟩
 obtain⟨a,ha⟩:∃a,a=pre.length:=⟨_,rfl⟩
 have ef:Txt.find3 s ⟨#[41]⟩ (b:Int)=(j:Int):=by rw[hb,ef,hj];rfl
 have g0:=tk0 hb hs hR μ
 have g1:=tk1 ef μ
 have g2:bP (sl s (some (.val (.int b))) (some (.val (.int j))) none none none none none) μ=.nx (sl s (some (.val (.int b))) (some (.val (.int j))) none none none none none) μ:=by
  obtain⟨z,hz⟩:=hz
  have:=My (s:=s) (z:=z) (c:=32) (b:=b) (R:=40::(I++41::post)) (j:=(j:Int)) (by rw[hb,hz];simp) (by rw[hs,hz]) hl (by lia) none none none none none μ
  rw[if_pos rfl] at this
  exact this
 have g3:=tk3 hb hj hs hl μ
 have g45:=Nt hb hs hl hF hw hns (some (.val (.int j))) (some (.val (.lst ((Txt.split (so I) cm).map T.str)))) none none none dU μ
 rw[← ha] at g45
 have g6:=tk6 hb ha hs hl ((Txt.split (so I) cm).map T.str) hz (some (.val (.int j))) none none none μ
 rw[List.length_map] at g6
 have hI:I.length≤2000000:=by
  rw[ay,hs] at hl
  simp at hl
  lia
 have g11:=λ(d n:Nat) (hd:d≤4) (x1 x3 x7:Option SV)=>Nu (n:=n) ha hj hs hl hd x1 x3 x7 μ
 have hws:∀w∈Txt.split (so I) cm,w.length≤2000000:=λw hw=>Nat.le_trans (uv hw).1 (by rw[j3];exact hI)
 unfold outD
 generalize Txt.split (so I) cm=ws at g3 g45 g6 hws ⊢
 clear hb hj ha
 have run:∀z:RS,dU (sl s (some (.val (.int b))) (some (.val (.int j))) (some (.val (.lst (ws.map T.str)))) (some (.val (.int a))) none none none) μ=z->cP (sl s none none none none none none none) μ=z:=λz hz2=>by
  rw[nK,jq,g0,RS.aM,jr,g1,RS.aM,js,g2,RS.aM,oV,g3,RS.aM,sq4 dU,g45,hz2]
 have fin:∀t:T,cP (sl s none none none none none none none) μ=.rt (.val t) μ->aX [.val (.str s)] μ=.ok (.val t) μ:=λt ht=>by
  show(cP (starts 8 [.val (.str s)]) μ).oQ μ.length=_
  have:starts 8 [.val (.str s)]=sl s none none none none none none none:=rfl
  rw[this,ht,eQ,gE,List.take_length]
 by_cases q:wfB w'.dropLast ws.length=true
 ·rw[if_pos q] at g6 ⊢
  obtain⟨y,g9⟩:=p6 (some (.val (.str s))) (some (.val (.int b))) (some (.val (.int j))) (some (.val (.lst (ws.map T.str)))) (some (.val (.int a))) μ ws 0 0 none hws
  have g7:gN (sl s (some (.val (.int b))) (some (.val (.int j))) (some (.val (.lst (ws.map T.str)))) (some (.val (.int a))) none none none) μ=.nx (sl s (some (.val (.int b))) (some (.val (.int j))) (some (.val (.lst (ws.map T.str)))) (some (.val (.int a))) (some (.val (.int 0))) none none) μ:=by unfold gN;simp?! only[]
  have g8:gO (sl s (some (.val (.int b))) (some (.val (.int j))) (some (.val (.lst (ws.map T.str)))) (some (.val (.int a))) (some (.val (.int 0))) none none) μ=.nx (sl s (some (.val (.int b))) (some (.val (.int j))) (some (.val (.lst (ws.map T.str)))) (some (.val (.int a))) (some (.val (.int 0))) (some (.val (.int 0))) none) μ:=by unfold gO;simp?! only[]
  have g9':gP (sl s (some (.val (.int b))) (some (.val (.int j))) (some (.val (.lst (ws.map T.str)))) (some (.val (.int a))) (some (.val (.int 0))) (some (.val (.int 0))) none) μ=forL (λ_=>True) (aS 7) kX (ws.map T.str) (sl s (some (.val (.int b))) (some (.val (.int j))) (some (.val (.lst (ws.map T.str)))) (some (.val (.int a))) (some (.val (.int ((0:Nat):Int)))) (some (.val (.int ((0:Nat):Int)))) none) μ:=by
   rw[Kk]
   generalize ws.map T.str=us
   simp?! only[]
   rfl
  apply fin
  apply run
  rw[jt,g6,RS.aM,oW,g7,RS.aM,oX,g8,RS.aM,oY,g9',g9]
  cases hv:lvs ws with
  | none=>rfl
  | some ls =>
   rw[Option.bind_some]
   show(RS.nx (sl s (some (.val (.int b))) (some (.val (.int j))) (some (.val (.lst (ws.map T.str)))) (some (.val (.int a))) (some (.val (.int (dpf 0 ls)))) (some (.val (.int ((0+(ls.map hn).sum:Nat))))) y) μ).seq fM=_
   rw[RS.aM,nL,Nat.zero_add]
   have hd5:dpf 0 ls≤5:=rR ls 0 5 (Nat.zero_le _) λc _=>by unfold ld;repeat (first|(split;decide)|decide)
   generalize (ls.map hn).sum=n
   by_cases c5:dpf 0 ls=5
   ·rw[if_pos c5]
    have d5:(((dpf 0 ls:Nat):Int)==5)=true:=by rw[c5];rfl
    have g10:dn (sl s (some (.val (.int b))) (some (.val (.int j))) (some (.val (.lst (ws.map T.str)))) (some (.val (.int a))) (some (.val (.int (dpf 0 ls)))) (some (.val (.int n))) y) μ=.rt (.val .non) μ:=by
     generalize ws.map T.str=us
     unfold dn
     simp?! only[d5]
    rw[g10];rfl
   ·rw[if_neg c5]
    have d5:(((dpf 0 ls:Nat):Int)==5)=false:=by rw[beq_eq_false_iff_ne];lia
    have g10:dn (sl s (some (.val (.int b))) (some (.val (.int j))) (some (.val (.lst (ws.map T.str)))) (some (.val (.int a))) (some (.val (.int (dpf 0 ls)))) (some (.val (.int n))) y) μ=.nx (sl s (some (.val (.int b))) (some (.val (.int j))) (some (.val (.lst (ws.map T.str)))) (some (.val (.int a))) (some (.val (.int (dpf 0 ls)))) (some (.val (.int n))) y) μ:=by
     generalize ws.map T.str=us
     unfold dn
     simp?! only[d5]
    rw[g10,RS.aM,nM]
    exact g11 _ n (by lia) _ _ _
 ·rw[if_neg q] at g6 ⊢
  exact fin _ (run _ (by rw[jt,g6,RS.mT];rfl))
theorem oJ{c:Nat}:∀{R:List Nat},c∈R->∃I post,R=I++c::post/\c∉I
 | x::R,h=>by
  by_cases q:x=c
  ·subst q;exact⟨[],R,rfl,by simp⟩
  ·have:c∈R:=by
    rcases List.mem_cons.mp h with h|h
    ·exact absurd h.symm q
    ·exact h
   obtain⟨I,post,rfl,hI⟩:=oJ this
   refine⟨x::I,post,rfl,?_⟩
   simp only[List.mem_cons]
   rintro (h|h)
   ·exact q h.symm
   ·exact hI h
theorem uF{s:Str}{P R:List Nat}(hl:s.length≤2000000)(hs:tl s=P++40::R)(hR:40∉R)(h:P=[]∨41∉R∨∃z c,P=z++[c]/\c≠32)(μ:aa):aX [.val (.str s)] μ=.ok (.val (tkv none)) μ:=by
 obtain⟨b,hb⟩:∃b,b=P.length:=⟨_,rfl⟩
 have g0:=tk0 hb hs hR μ
 have fin:∀(j:Int),Txt.find3 s ⟨#[41]⟩ (b:Int)=j->bP (sl s (some (.val (.int b))) (some (.val (.int j))) none none none none none) μ=.rt (.val .non) μ->aX [.val (.str s)] μ=.ok (.val (tkv none)) μ:=λj hj ht=>by
  show(cP (starts 8 [.val (.str s)]) μ).oQ μ.length=_
  have:starts 8 [.val (.str s)]=sl s none none none none none none none:=rfl
  rw[this,nK,jq,g0,RS.aM,jr,tk1 hj μ,RS.aM,js,ht,RS.mT,eQ,gE,List.take_length];rfl
 by_cases q:P=[]
 ·subst q;exact fin _ rfl (Nq (by rw[hb];simp) _ _ _ _ _ μ)
 ·have hp:0<P.length:=List.length_pos_iff.mpr q
  by_cases q2:41∈R
  ·rcases h with h|h|⟨z,c,rfl,hc⟩
   ·exact absurd h q
   ·exact absurd q2 h
   ·obtain⟨I,post,rfl,hI⟩:=oJ q2
    have hs':tl s=(z++[c])++((40::I)++41::post):=by rw[hs];rfl
    have ef:=xD hs' (by
     simp only[List.mem_cons]
     rintro (h|h)
     ·cases h
     ·exact hI h)
    rw[← hb] at ef
    have:=My (s:=s) (z:=z) (c:=c) (b:=b) (R:=40::(I++41::post)) (j:=((b+(40::I).length:Nat):Int)) (by rw[hb];simp) hs hl (by lia) none none none none none μ
    rw[if_neg hc] at this
    exact fin _ ef this
  ·have hj:=Ef (c:=41) hs (by
    simp only[List.mem_cons]
    rintro (h2|h2)
    ·cases h2
    ·exact q2 h2)
   rw[← hb] at hj
   exact fin _ hj (Nr (by lia) (by decide) _ _ _ _ _ μ)
theorem pw:∀P:List Nat,∃pre w',P=pre++w'/\j0 pre/\40∉w'/\oA w'
 | []=>⟨[],[],rfl,.inl rfl,by simp,λa b e=>by cases a<;>simp at e⟩
 | c::P=>by
  obtain⟨pre,w',rfl,hF,hw,hn⟩:=pw P
  cases pre with
  | cons x pre =>
   refine⟨c::x::pre,w',rfl,?_,hw,hn⟩
   exact hF.more (a:=[c]) (b:=x::pre) |> λ_=>by
    rcases hF with h|⟨z,h⟩|⟨z,h⟩
    ·cases h
    ·exact .inr (.inl ⟨c::z,by rw[h];rfl⟩)
    ·exact .inr (.inr ⟨c::z,by rw[h];rfl⟩)
  | nil =>
   rw[List.nil_append]
   by_cases c1:c=40
   ·subst c1;exact⟨[40],w',rfl,.inr (.inl ⟨[],rfl⟩),hw,hn⟩
   ·by_cases c2:∃v,c=44/\w'=32::v
    ·obtain⟨v,rfl,rfl⟩:=c2
     exact⟨[44,32],v,rfl,.inr (.inr ⟨[],rfl⟩),λh=>hw (List.mem_cons_of_mem _ h),λa b e=>hn (32::a) b (by rw[e];rfl)⟩
    ·refine⟨[],c::w',rfl,.inl rfl,?_,λa b e=>?_⟩
     ·simp only[List.mem_cons]
      rintro (h|h)
      ·exact c1 h.symm
      ·exact hw h
     ·cases a with
      | nil =>
       simp only[List.nil_append,List.cons.injEq] at e
       exact c2 ⟨b,e.1,e.2⟩
      | cons x a =>
       simp only[List.cons_append,List.cons.injEq] at e
       exact hn a b e.2
structure Last(s pre post:List Nat)(k:Int)(ls:List Nat):Prop where
 k1:1≤k
 k2:k≤ls.length
 k3:ls.length≤10
 lf:∀c∈ls,Lf c
 dp:dpf 0 ls≤4
 is:s=pre++(hdl k ls.length++(jn (one ls)++41::post))
abbrev aft(pre post ls:List Nat):List Nat×Nat:=(pre++sgn (dpf 0 ls)::post,(ls.map hn).sum)
theorem ED{c:Nat}(h:Lf c):c≠40/\c≠41/\c≠44/\c≠32:=by
 rcases h with h|h
 ·have h:97≤c/\c<107:=of_decide_eq_true h
  lia
 ·obtain⟨i,hi,rfl⟩:=kT h
  have:∀i,i<5->sgn i≠40/\sgn i≠41/\sgn i≠44/\sgn i≠32:=by decide
  exact this i hi
theorem wx{ls:List Nat}{c:Nat}(h:c∈jn (one ls)):c∈ls∨c=44∨c=32:=by
 cases ls with
 | nil=>cases h
 | cons x ls =>
  have h:c∈[x]++(one ls).flatMap λy=>44::32::y:=h
  rcases List.mem_append.mp h with h|h
  ·left;simp at h;rw[h];simp
  ·obtain⟨y,hy,hc⟩:=List.mem_flatMap.mp h
   obtain⟨d,hd,rfl⟩:=List.mem_map.mp hy
   simp at hc
   rcases hc with h|h|h
   ·exact .inr (.inl h)
   ·exact .inr (.inr h)
   ·left;rw[h];exact List.mem_cons_of_mem _ hd
theorem AG{ls:List Nat}(h:ls≠[])(hl:∀c∈ls,Lf c):Txt.split (so (jn (one ls))) cm=ls.map λc=>(⟨#[c]⟩:Str):=by
 cases ls with
 | nil=>exact absurd rfl h
 | cons x ls =>
  rw[List.map_cons]
  refine Eb (λv hv=>?_) ?_
  ·rw[← List.map_cons (f:=λc=>(⟨#[c]⟩:Str))] at hv
   obtain⟨c,hc,rfl⟩:=List.mem_map.mp hv
   show 44∉[c]
   simp only[List.mem_singleton]
   exact λe=>(ED (hl c hc)).2.2.1 e.symm
  ·rw[fA]
   show [x]++(one ls).flatMap (λy=>44::32::y)=[x]++(ls.map λc=>(⟨#[c]⟩:Str)).flatMap λx=>tl cm++tl x
   rw[List.flatMap_map,List.flatMap_map,kS];rfl
theorem rX{I:List Nat}{ls:List Nat}(h:Txt.split (so I) cm=ls.map λc=>(⟨#[c]⟩:Str)):I=jn (one ls):=by
 obtain⟨p,ps,e1,e2⟩:=iV (so I) cm
 rw[fA] at e2
 rw[h] at e1
 obtain⟨x,ls',rfl,rfl,rfl⟩:=List.map_eq_cons_iff.mp e1
 rw[e2]
 show [x]++(ls'.map λc=>(⟨#[c]⟩:Str)).flatMap (λx=>tl cm++tl x)=[x]++(one ls').flatMap λy=>44::32::y
 rw[List.flatMap_map,List.flatMap_map,kS];rfl
theorem He{a b:Option (List Nat×Nat)}(h:tkv a=tkv b):a=b:=by
 cases a with
 | none=>cases b with
  | none=>rfl
  | some b=>cases h
 | some a=>cases b with
  | none=>cases h
  | some b =>
   have h:T.tup [.str (so a.1),.int (a.2:Nat)]=T.tup [.str (so b.1),.int (b.2:Nat)]:=h
   simp only[T.tup.injEq,List.cons.injEq,T.str.injEq,T.int.injEq,and_true] at h
   have h1:tl (so a.1)=tl (so b.1):=by rw[h.1]
   rw[fA,fA] at h1
   rw[show a=(a.1,a.2) from rfl,show b=(b.1,b.2) from rfl,h1,show a.2=b.2 by have:=h.2;lia]
theorem EE{s:Str}{pre post:List Nat}{k:Int}{ls:List Nat}(hl:s.length≤2000000)(L:Last (tl s) pre post k ls)(h40:40∉post)(hF:j0 pre)(μ:aa):aX [.val (.str s)] μ=.ok (.val (tkv (some (aft pre post ls)))) μ:=by
 obtain⟨k1,k2,k3,lf,dp,is⟩:=L
 obtain⟨w,hw,Nv⟩:=mE k1 k2 k3
 have hm:=rQ k1 k2 k3
 have ne:ls≠[]:=λe=>by rw[e] at k2;simp at k2;lia
 have nI:∀c,c=40∨c=41->c∉jn (one ls):=λc hc h=>by
  rcases wx h with h|h|h
  ·rcases hc with rfl|rfl
   ·exact(ED (lf _ h)).1 rfl
   ·exact(ED (lf _ h)).2.1 rfl
  ·rcases hc with rfl|rfl<;>cases h
  ·rcases hc with rfl|rfl<;>cases h
 have n44:44∉w++[32]:=λh=>by
  have:44∈tl (bg k ls.length):=by
   show 44∈hdl k ls.length
   rw[hw]
   rcases List.mem_append.mp h with h|h
   ·exact List.mem_append_left _ h
   ·cases h with
    | tail _ h=>cases h
  exact(iW _ hm 44 this).2.2 rfl
 have e:=p7 (s:=s) (pre:=pre) (w':=w++[32]) (I:=jn (one ls)) (post:=post) hl (by rw[is,hw];simp) (nI 40 (.inl rfl)) h40 (nI 41 (.inr rfl)) hF (by simpa using Nv) (λa b e=>n44 (by rw[e];simp)) ⟨pre++w,by simp⟩ μ
 rw[e]
 congr 3
 unfold outD
 rw[AG ne lf,List.length_map,List.dropLast_concat,if_pos (Kh k1 k2 k3 hw),Ez lf,Option.bind_some,if_neg (by lia)]
theorem wy{s:Str}(hl:s.length≤2000000)(h40:40∈tl s):∃o,(∀μ,aX [.val (.str s)] μ=.ok (.val (tkv o)) μ)/\(∀a,o=some a->∃pre post k ls,Last (tl s) pre post k ls/\a=aft pre post ls) /\
  ∀pre post k ls,Last (tl s) pre post k ls->40∉post->j0 pre->o=some (aft pre post ls):=by
 have comp:∀o,(∀μ,aX [.val (.str s)] μ=.ok (.val (tkv o)) μ)->∀pre post k ls,Last (tl s) pre post k ls->40∉post->j0 pre->o=some (aft pre post ls):=λo ho pre post k ls L h2 hF=>by
  have e1:=EE hl L h2 hF []
  rw[ho []] at e1
  simp only[R.ok.injEq,SV.val.injEq,and_true] at e1
  exact He e1
 obtain⟨P,y,R,e,hy,hR⟩:=ic (p:=λc=>c=40) (tl s) ⟨40,h40,rfl⟩
 have hy:y=40:=hy
 subst hy
 have hR:40∉R:=λh=>hR 40 h rfl
 have no:(P=[]∨41∉R∨∃z c,P=z++[c]/\c≠32)->∃o,(∀μ,aX [.val (.str s)] μ=.ok (.val (tkv o)) μ)/\(∀a,o=some a->∃pre post k ls,Last (tl s) pre post k ls/\a=aft pre post ls) /\
  ∀pre post k ls,Last (tl s) pre post k ls->40∉post->j0 pre->o=some (aft pre post ls):=λh =>
  ⟨none,λμ=>uF hl e hR h μ,λa ha=>(by cases ha),comp none λμ=>uF hl e hR h μ⟩
 by_cases q:41∈R
 ·rcases List.eq_nil_or_concat P with rfl|⟨z,c,hP⟩
  ·exact no (.inl rfl)
  ·by_cases hc:c=32
   ·subst hc
    obtain⟨I,post,rfl,hI⟩:=oJ q
    obtain⟨pre,w',rfl,hF,hw,hns⟩:=pw P
    have run:=λμ=>p7 hl e (λh=>hR (List.mem_append_left _ h)) (λh=>hR (List.mem_append_right _ (List.mem_cons_of_mem _ h))) hI hF hw hns ⟨z,by rw[hP];simp⟩ μ
    refine⟨_,run,λa ha=>?_,comp _ run⟩
    unfold outD at ha
    by_cases c1:wfB w'.dropLast (Txt.split (so I) cm).length=true
    ·rw[if_pos c1] at ha
     obtain⟨ls,hls,ha⟩:=Option.bind_eq_some_iff.mp ha
     by_cases c5:dpf 0 ls=5
     ·rw[if_pos c5] at ha;cases ha
     ·rw[if_neg c5] at ha
      cases ha
      obtain⟨e1,lf⟩:=uE hls
      rw[e1,List.length_map] at c1
      obtain⟨k,k1,k2,k3,hk⟩:=Ki c1
      have hd5:dpf 0 ls≤5:=rR ls 0 5 (Nat.zero_le _) λc _=>by unfold ld;repeat (first|(split;decide)|decide)
      have hwl:w'++[40]=w'.dropLast++[32,40]:=by
       rcases List.eq_nil_or_concat w' with rfl|⟨v,c,hv⟩
       ·cases c1
       ·rw[List.concat_eq_append] at hv hP
        rw[hv,← List.append_assoc] at hP
        have:=List.append_inj_right' hP rfl
        simp at this
        rw[hv,this,List.dropLast_concat]
        simp
      refine⟨pre,post,k,ls,⟨k1,k2,k3,lf,by lia,?_⟩,rfl⟩
      rw[e,hk,rX e1,← hwl]
      simp
    ·rw[if_neg c1] at ha;cases ha
   ·exact no (.inr (.inr ⟨z,c,by rw[hP];simp,hc⟩))
 ·exact no (.inr (.inl q))
def acc(t:List Nat)(h:Nat):Prop:=∃n,Lg 5 t n/\n+h≤20
def Good(t:List Nat):Prop:=(∀c∈t,isS c=false)/\acc t 0
theorem ld5(c:Nat):ld c≤5:=by unfold ld;repeat (first|(split;decide)|decide)
def wz:DS:=(aq (az 2 (ax (cal aX) [(ae 0)]))
 (aq (sIf (dUn iw (ae 2)) (aK (dC (.bl false))) a6)
 (aq (az 1 (ah av (ae 1) (aF (ae 2) (dC (.int 1)))))
 (az 0 (aF (ae 2) (dC (.int 0)))))))
theorem EF:gQ=eG (ah dM (dC (.str "(")) (ae 0)) wz:=rfl
theorem AH{s:Str}(hl:s.length≤2000000)(hs0:∀c∈tl s,isS c=false)(x2:Option SV)(μ:aa) :
  (∃(t:Str) (h:Nat) (y:Option SV),eG (ah dM (dC (.str "(")) (ae 0)) wz [some (.val (.str s)),some (.val (.int (0:Nat))),x2] μ=.nx [some (.val (.str t)),some (.val (.int h)),y] μ/\40∉tl t/\t.length≤2000000/\(acc (tl s) 0↔acc (tl t) h)/\(h=0∨∃c∈tl t,isS c=true)) ∨
  (eG (ah dM (dC (.str "(")) (ae 0)) wz [some (.val (.str s)),some (.val (.int (0:Nat))),x2] μ=.rt (.val (.bl false)) μ/\¬ acc (tl s) 0):=by
 refine vd (P:=λz=>(∃(t:Str) (h:Nat) (y:Option SV),z=.nx [some (.val (.str t)),some (.val (.int h)),y] μ/\40∉tl t/\t.length≤2000000/\(acc (tl s) 0↔acc (tl t) h)/\(h=0∨∃c∈tl t,isS c=true))∨(z=.rt (.val (.bl false)) μ/\¬ acc (tl s) 0)) ?_
  (λm e μ1=>μ1=μ/\∃(t:Str) (h:Nat) (y:Option SV),e=[some (.val (.str t)),some (.val (.int h)),y]/\m=t.length/\t.length≤2000000/\(acc (tl s) 0↔acc (tl t) h)/\(h=0∨∃c∈tl t,isS c=true)) ?_ s.length _ μ ⟨rfl,s,0,x2,rfl,rfl,hl,Iff.rfl,.inl rfl⟩
 ·rintro (⟨_,_,_,h,_⟩|⟨h,_⟩)<;>cases h
 ·rintro m e μ1 ⟨rfl,t,h,y,rfl,hm,ht,Kl,hsg⟩
  have ec:dM (.str "(") (.str t)=some (.bl (decide (40∈tl t))):=by
   show some (T.bl (!(Builtin.Str.occurrences t "(" 0 t.length 1).isEmpty))=_
   rw[rW,oB]
  refine⟨decide (40∈tl t),μ1,by simp?! only[ec],?_⟩
  by_cases q:40∈tl t
  ·rw[decide_eq_true q,if_pos rfl]
   obtain⟨o,run,snd,cmp⟩:=wy ht q
   have lastOf:∀n,Lg 5 (tl t) n->∃a n',o=some a/\n=n'+a.2/\Lg 5 a.1 n':=λn hL=>by
    obtain⟨pre,post,k,ls,n',g1,g2,g3,g4,g5,g6,g7,g8,g9,g10⟩:=hL.last (Nat.le_refl _) q
    exact⟨_,n',cmp pre post k ls ⟨g1,g2,g3,g4,g5,g6⟩ g7 g8,g9,g10⟩
   cases ho:o with
   | none =>
    rw[ho] at run
    have hb:wz [some (.val (.str t)),some (.val (.int h)),y] μ1=.rt (.val (.bl false)) μ1:=by
     have run:=run μ1
     have run:_=R.ok (SV.val T.non) μ1:=run
     have en:iw .non=some (.bl true):=rfl
     unfold wz
     simp?! only[run,en]
    rw[hb,Gd]
    refine .inr ⟨rfl,λz=>?_⟩
    obtain⟨n,hL,_⟩:=Kl.mp z
    obtain⟨a,_,e,_⟩:=lastOf n hL
    rw[ho] at e;cases e
   | some a =>
    obtain⟨pre,post,k,ls,L,ea⟩:=snd a ho
    rw[ho] at run
    have hb:wz [some (.val (.str t)),some (.val (.int h)),y] μ1=.nx [some (.val (.str (so a.1))),some (.val (.int ((h+a.2:Nat)))),some (.val (tkv (some a)))] μ1:=by
     have run:=run μ1
     have run:_=R.ok (SV.val (.tup [.str (so a.1),.int (a.2:Nat)])) μ1:=run
     have en:iw (.tup [.str (so a.1),.int (a.2:Nat)])=some (.bl false):=rfl
     unfold wz
     simp?! only[run,en]
     rfl
    rw[hb,Gb]
    have hlen:(tl t).length=pre.length+((hdl k ls.length).length+((jn (one ls)).length+(post.length+1))):=by rw[L.is];simp
    obtain⟨w,hw,_⟩:=mE L.k1 L.k2 L.k3
    have hw2:2≤(hdl k ls.length).length:=by rw[hw];simp
    have ha1:a.1.length=pre.length+(post.length+1):=by rw[ea];simp
    rw[ay] at hm ht
    obtain⟨s1,s2,s3⟩:=ib (dpf 0 ls) (by have:=L.dp;lia)
    refine⟨(so a.1).length,?_,rfl,so a.1,h+a.2,_,rfl,rfl,?_,?_,?_⟩
    ·rw[j3];lia
    ·rw[j3];lia
    ·rw[Kl,fA a.1]
     constructor
     ·rintro⟨n,hL,hh⟩
      obtain⟨a',n',e,e2,e3⟩:=lastOf n hL
      rw[ho] at e
      cases e
      exact⟨n',e3,by lia⟩
     ·rintro⟨n,hL,hh⟩
      have:=hL.put (a:=pre) (b:=post) (i:=dpf 0 ls) (by rw[ea]) (by have:=L.dp;lia) (Lg.some L.k1 L.k2 L.k3 L.lf)
      refine⟨n+(ls.map hn).sum,?_,?_⟩
      ·rw[L.is]
       simpa using this
      ·have:a.2=(ls.map hn).sum:=by rw[ea]
       lia
    ·right
     rw[fA a.1,ea]
     exact⟨sgn (dpf 0 ls),by simp,s2⟩
  ·rw[decide_eq_false q,if_neg (by decide)]
   exact .inl ⟨t,h,y,rfl,q,ht,Kl,hsg⟩
theorem p8(n:Nat):∀ws:List T,(∀t∈ws,∃c,t=.str ⟨#[c]⟩/\isS c=true)->gg n ws=true
 | [],_=>by rw[gg]
 | t::ws,h=>by
  obtain⟨c,rfl,hc⟩:=h t List.mem_cons_self
  rw[yw,p8 n ws λu hu=>h u (List.mem_cons_of_mem _ hu)]
  obtain⟨i,hi,rfl⟩:=kT hc
  have:∀i,i<5->sgn i<1114112:=by decide
  unfold okT
  simp[this i hi]
theorem EG{ws:List T}(h:∀t∈ws,∃c,t=.str ⟨#[c]⟩/\isS c=true):fNe (.lst ws) (.lst [])=some (.bl (!ws.isEmpty)):=by
 show(if okT 100 (.lst ws)=true/\okT 100 (.lst [])=true then some (T.bl (!eqT (.lst ws) (.lst []))) else none)=_
 rw[if_pos ⟨by rw[wV];exact p8 _ ws h,by rw[wV,Bw]⟩,Fz]
 cases ws<;>(unfold gf;rfl)
def sgT:T->Bool
 | .str x=>(tl x).any isS
 | _=>false
theorem Mz(c:Nat):dM (.str ⟨#[c]⟩) (.str "#$&*!")=some (.bl (isS c)):=by
 show some (T.bl (!(Builtin.Str.occurrences ("#$&*!":Str) ⟨#[c]⟩ 0 ("#$&*!":Str).length 1).isEmpty))=_
 rw[oB]
 congr 2
 rw[Bool.eq_iff_iff,decide_eq_true_iff,show tl ("#$&*!":Str)=[35,36,38,42,33] by decide +kernel]
 unfold isS
 simp only[List.mem_cons,List.not_mem_nil,or_false,Bool.or_eq_true,beq_iff_eq,or_assoc]
theorem Hf{s:Str}(hl:s.length≤2000000)(x1 x2:Option SV)(μ:aa):eU [some (.val (.str s)),x1,x2] μ=if (tl s).any isS=true then .rt (.val (.bl false)) μ else .nx [some (.val (.str s)),x1,x2] μ:=by
 have hc:=λ(same:aa->Prop) (hs':same μ)=>sX (same:=same) (b:=aS 0) (c:=ah dM (ae 0) (dC (.str "#$&*!"))) (d:=ae 0) (e:=[none]) (μ:=μ) sgT id hs' (iK s) λx hx=>by
  obtain⟨c,hc,rfl⟩:=List.mem_map.mp hx
  refine⟨_,rfl,?_,λ_=>?_⟩
  ·have e:=Mz c
   have e2:sgT (.str ⟨#[c]⟩)=isS c:=by show([c].any isS)=_;simp
   rw[e2]
   simp?! only[e]
  ·simp?! only[id]
 have e1:dj (y7 (ae 0)) [none] (aS 0) (ah dM (ae 0) (dC (.str "#$&*!"))) (ae 0) [some (.val (.str s)),x1,x2] μ=.ok (.val (.lst ((iK s).filter sgT))) μ:=by
  have z:(iK s).length≤szL:=by
   unfold iK
   rw[List.length_map,szL]
   have:=ay s
   show(tl s).length≤_
   lia
  simp?! only[GC,aV]
  rw[hc _ trivial,R.iZ,R.aQ,if_pos z,List.map_id]
 have e2:fNe (.lst ((iK s).filter sgT)) (.lst [])=some (.bl ((tl s).any isS)):=by
  rw[EG λt ht=>by
   obtain⟨ht1,ht2⟩:=List.mem_filter.mp ht
   obtain⟨c,_,rfl⟩:=List.mem_map.mp ht1
   have e2:sgT (.str ⟨#[c]⟩)=isS c:=by show([c].any isS)=_;simp
   rw[e2] at ht2
   exact⟨c,rfl,ht2⟩]
  congr 2
  have:∀l:List Nat,(!((l.map λc=>T.str ⟨#[c]⟩).filter sgT).isEmpty)=l.any isS:=by
   intro l
   induction l with
   | nil=>rfl
   | cons c l ih =>
    rw[List.map_cons,List.filter_cons,List.any_cons]
    have e2:sgT (.str ⟨#[c]⟩)=isS c:=by show([c].any isS)=_;simp
    rw[e2]
    cases isS c with
    | true=>rfl
    | false=>exact ih
  exact this (tl s)
 unfold eU
 generalize dj (y7 (ae 0)) [none] (aS 0) (ah dM (ae 0) (dC (.str "#$&*!"))) (ae 0)=D at e1
 generalize (iK s).filter sgT=us at e1 e2
 cases q:(tl s).any isS with
 | true=>rw[q] at e2;simp?! only[e1,e2]
 | false=>rw[q] at e2;simp?! only[e1,e2]
theorem Hg{t:Str}(hl:t.length≤2000000)(h:Nat)(y:Option SV)(μ:aa)(h40:40∉tl t)(hsg:h=0∨∃c∈tl t,isS c=true):∃v:Bool,eW [some (.val (.str t)),some (.val (.int h)),y] μ=.rt (.val (.bl v)) μ/\(v=true↔acc (tl t) h):=by
 have el:jg μ (.val (.str t))=some (.int (t.length:Int)):=if_pos (by rw[szL];lia)
 unfold eW
 by_cases c1:t.length=1
 ·obtain⟨c,hc⟩:∃c,tl t=[c]:=by
   rw[ay] at c1
   match hq:tl t,c1 with
   | [c],_=>exact⟨c,rfl⟩
  have d1:((t.length:Int)==1)=true:=by rw[c1];rfl
  have e2:dM (.str t) (.str "abcdefghij#$&*!")=some (.bl (decide (Lf c))):=by
   have:t=⟨#[c]⟩:=cz hc
   rw[this]
   show some (T.bl (!(Builtin.Str.occurrences ("abcdefghij#$&*!":Str) ⟨#[c]⟩ 0 ("abcdefghij#$&*!":Str).length 1).isEmpty))=_
   rw[oB]
   congr 2
   rw[Bool.eq_iff_iff,decide_eq_true_iff,decide_eq_true_iff]
   exact xP c
  by_cases c2:Lf c
  ·rw[decide_eq_true c2] at e2
   refine⟨decide ((h:Int)≤20),by simp?! only[el,d1,e2],?_⟩
   rw[decide_eq_true_iff,hc]
   constructor
   ·intro hh
    refine⟨hn c,Lg.leaf c2 (ld5 c),?_⟩
    rcases c2 with c2|c2
    ·rcases hsg with z|⟨x,hx,hx2⟩
     ·rw[lR c2,z];decide
     ·rw[hc] at hx
      simp at hx
      subst hx
      rw[rP hx2] at c2;cases c2
    ·rw[wo c2];lia
   ·rintro⟨n,_,hh⟩
    lia
  ·rw[decide_eq_false c2] at e2
   refine⟨false,by simp?! only[el,d1,e2],⟨λz=>(by cases z),?_⟩⟩
   rintro⟨n,hL,_⟩
   obtain⟨x,g1,_,g3,_⟩:=hL.single h40
   rw[hc] at g3
   cases g3
   exact absurd g1 c2
 ·have d1:((t.length:Int)==1)=false:=by rw[beq_eq_false_iff_ne];lia
  refine⟨false,by simp?! only[el,d1],⟨λz=>(by cases z),?_⟩⟩
  rintro⟨n,hL,_⟩
  obtain⟨x,_,_,g3,_⟩:=hL.single h40
  rw[ay,g3] at c1
  exact absurd rfl c1
theorem uG{s:Str}(hl:s.length≤2000000)(μ:aa):∃v:Bool,cp [.val (.str s)] μ=.ok (.val (.bl v)) μ/\(v=true↔Good (tl s)):=by
 have g0:=Hf hl none none μ
 have fin:∀t:T,dE [some (.val (.str s)),none,none] μ=.rt (.val t) μ->cp [.val (.str s)] μ=.ok (.val t) μ:=λt ht=>by
  show(dE (starts 3 [.val (.str s)]) μ).oQ μ.length=_
  have:starts 3 [.val (.str s)]=[some (.val (.str s)),none,none]:=rfl
  rw[this,ht,eQ,gE,List.take_length]
 by_cases q:(tl s).any isS=true
 ·rw[if_pos q] at g0
  refine⟨false,fin _ (by rw[gU,eK,g0,RS.mT]),⟨λz=>(by cases z),λz=>?_⟩⟩
  obtain⟨c,hc,hc2⟩:=List.any_eq_true.mp q
  rw[z.1 c hc] at hc2;cases hc2
 ·rw[if_neg q] at g0
  have hs0:∀c∈tl s,isS c=false:=λc hc=>by
   cases e:isS c with
   | false=>rfl
   | true=>exact absurd (List.any_eq_true.mpr ⟨c,hc,e⟩) q
  have g1:eV [some (.val (.str s)),none,none] μ=.nx [some (.val (.str s)),some (.val (.int (0:Nat))),none] μ:=by unfold eV;simp?! only[];rfl
  rcases AH hl hs0 none μ with ⟨t,h,y,e1,e2,e3,e4,e5⟩|⟨e1,e2⟩
  ·obtain⟨v,g3,hv⟩:=Hg e3 h y μ e2 e5
   refine⟨v,fin _ (by rw[gU,eK,g0,RS.aM,ie,g1,RS.aM,ig,EF,e1,RS.aM,l7,g3]),?_⟩
   rw[hv,← e4]
   exact⟨λz=>⟨hs0,z⟩,λz=>z.2⟩
  ·exact⟨false,fin _ (by rw[gU,eK,g0,RS.aM,ie,g1,RS.aM,ig,EF,e1,RS.mT]),⟨λz=>(by cases z),λz=>absurd z.2 e2⟩⟩
theorem mG:∀(d:Nat) (t:T),IsR d t->∀c∈txt d t,isS c=false
 | 0,t,⟨h,h0,h1,e⟩,c,hc=>by
  subst e
  have hc:c∈[97+h.toNat]:=hc
  simp at hc
  subst hc
  cases q:isS (97+h.toNat) with
  | false=>rfl
  | true =>
   have:=rP q
   have z:isH (97+h.toNat)=true:=decide_eq_true (by lia)
   rw[z] at this;cases this
 | d+1,t,.inl ⟨h,h0,h1,e⟩,c,hc=>mG 0 t ⟨h,h0,h1,e⟩ c (by rw[e] at hc ⊢;rw[d_] at hc ⊢;exact hc)
 | d+1,t,.inr ⟨k,r,rs,e,h1,h2,h3,h4⟩,c,hc=>by
  subst e
  rw[eZ] at hc
  rcases List.mem_append.mp hc with hc|hc
  ·exact(iW _ (head_mem h1 h2 (by lia)) c hc).1
  ·rcases List.mem_append.mp hc with hc|hc
   ·exact mG d r (h4 r List.mem_cons_self) c hc
   ·rcases List.mem_append.mp hc with hc|hc
    ·obtain⟨x,hx,hc⟩:=List.mem_flatMap.mp hc
     simp only[List.mem_cons] at hc
     rcases hc with rfl|rfl|hc
     ·rfl
     ·rfl
     ·exact mG d x (h4 x (List.mem_cons_of_mem _ hx)) c hc
    ·simp at hc
     subst hc
     rfl
theorem EH(s:Str):Good (tl s)↔∃t,rdR s=some t:=by
 constructor
 ·rintro⟨h1,n,h2,h3⟩
  obtain⟨t,a1,a2,a3⟩:=Ej h2 h1
  exact⟨t,(rV s t).mpr ⟨a1,a2,by lia⟩⟩
 ·rintro⟨t,ht⟩
  obtain⟨a1,a2,a3⟩:=(rV s t).mp ht
  refine⟨λc hc=>?_,_,?_,by simpa using a3⟩
  ·rw[← a2] at hc
   exact mG 5 t a1 c hc
  ·rw[← a2]
   exact wt 5 t a1
end Fw.k12
namespace Fw.J
open PySem Fw Fw.H Fw.E Fw.F
end Fw.J
namespace Fw.K
open PySem Fw Fw.H Fw.E Fw.F Fw.J
end Fw.K
namespace Fw.U
open PySem Fw Fw.H Fw.E
def uH:FN:=fnV 7 J.my
def uI(F:FN):DS :=
 (aq (az 2 (ax (cal uH) [(ae 0),(ae 1),(dC (.int 4000)),(dC (.int 24))]))
 (aK (ax (cal F) [(ae 2),(bQ (bq [(dC (.int 0)),(dC (.int 19))])),(aF (bq [(dC (.int 1)),(dC (.int 2)),(dC (.int 5)),(dC (.int 3)),(dC (.int 5)),(dC (.int 4))]) (ah bp (ax (cal J.fw) [(ae 0),(ah av (ae 1) (dC (.int 1)))]) (dC (.int 6))))])))
theorem EI{F:Nat->FN}(hF:∀n,F (n+1)=fnV 6 (je (F n)))(ns:List Int)(k:Int)(hk:0≤k/\k≤100)(μ:aa) :
  ∃(d:Nat) (t:T),d≤5/\IsR d t/\(hwd d t).length≤20/\fnV 3 (uI (F 8)) [.val (.lst (ns.map T.int)),.val (.int k)] μ=.ok (.val t) μ:=by
 obtain⟨r,e1,hr⟩:=J.D0 ns k 4000 24 ⟨hk.1,by lia⟩ (by lia) (by lia) (by lia) μ
 have e1:uH [.val (.lst (ns.map T.int)),.val (.int k),.val (.int 4000),.val (.int 24)] μ=.ok (.val (li r)) μ:=e1
 obtain⟨c,hc⟩:=J.h8 ns (k+1) (by lia) (by lia)
 have h0:=Int.emod_nonneg c (show(6:Int)≠0 by lia)
 have h1:=Int.emod_lt_of_pos c (show(0:Int)<6 by lia)
 have ea:=kj (xs:=([1,2,5,3,5,4]:List Int)) (f:=T.int) (i:=c%6) h0 (by show c%6<(6:Nat);lia)
 have hm:(([1,2,5,3,5,4]:List Int)[(c%6).toNat]'(by show(c%6).toNat<6;lia))∈([1,2,5,3,5,4]:List Int):=List.getElem_mem _
 generalize (([1,2,5,3,5,4]:List Int)[(c%6).toNat]'(by show(c%6).toNat<6;lia))=dp at ea hm
 have hd:∃d:Nat,dp=d/\d≤5:=by
  refine⟨dp.toNat,?_,?_⟩<;>(simp at hm;lia)
 obtain⟨d,rfl,hd⟩:=hd
 simp only[List.map_cons,List.map_nil] at ea
 obtain⟨t,a',b',g1,g2,g3,g4,g5,g6⟩:=D6 hF hr μ d 7 (by lia) 0 19 (by lia) (by lia) (by lia)
 refine⟨d,t,hd,g1,by lia,?_⟩
 unfold uI
 simp?! only[e1,hc,ea,g6,mr]
end Fw.U
namespace Fw.k12
open PySem Fw Fw.H Fw.E Fw.U
theorem AI(ns:List Int)(k:Int)(hk:0≤k/\k≤100)(μ:aa):∃(d:Nat) (t:T),d≤5/\IsR d t/\(hwd d t).length≤20/\bB [.val (.lst (ns.map T.int)),.val (.int k)] μ=.ok (.val t) μ:=EI (F:=eT) (λ_=>rfl) ns k hk μ
theorem Hh{d:Nat}{t:T}(ht:IsR d t)(hd:d≤5)(μ:aa):b7 8 [.val t] μ=.ok (.val (.str (tx d t))) μ:=D4 (F:=b7) (λ_=>rfl) d 7 t ht (by lia) hd μ
theorem EJ{d:Nat}{t:T}(ht:IsR d t)(hd:d≤5)(μ:aa):cO 8 [.val t] μ=.ok (.val (.str (tx d t))) μ:=G1 (F:=cO) (λ_=>rfl) d 7 t ht (by lia) hd μ
theorem xQ(ns:List Int)(k:Int)(h0:0≤k)(h1:k≤1000):∃c,∀μ,aO [.val (.lst (ns.map T.int)),.val (.int k)] μ=.ok (.val (.int c)) μ:=J.h8 ns k h0 h1
def rv:Option T->T
 | some t=>.tup [t,.non]
 | none=>.tup [.non,.bl true]
theorem Hi{f:Str->Option Bool}{d:D}{e:Slots}{μ μ1:aa}{n:Str}{b:Bool}(h:d e μ=.ok (.val (.exc n none)) μ1)(hf:f n=some b):ly f d e μ=.ok (.val (.bl b)) μ1:=by
 unfold ly
 rw[h]
 show(match f n with|some b=>R.ok (SV.val (T.bl b)) μ1|none=>R.bad)=_
 rw[hf]
def hdB:DS:=(az 1 (j_ (ly (λn=>if n="NoRule" then some true else none) (ae 3)) (ly (λn=>if n="NoRule" then some true else none) (ae 3))))
theorem Km(v:T)(μ:aa):sAs 3 "NoRule" hdB [some (.val v),some (.val .non),some (.val .non),none] μ=.nx [some (.val v),some (.val (.bl true)),some (.val .non),none] μ:=by
 have e1:ly (λn=>if n="NoRule" then some true else none) (ae 3) [some (.val v),some (.val .non),some (.val .non),some (.val (.exc "NoRule" none))] μ=.ok (.val (.bl true)) μ:=Hi (by simp?! only[]) (if_pos rfl)
 have e2:hdB [some (.val v),some (.val .non),some (.val .non),some (.val (.exc "NoRule" none))] μ=.nx [some (.val v),some (.val (.bl true)),some (.val .non),some (.val (.exc "NoRule" none))] μ:=by
  unfold hdB
  generalize ly (λn=>if n="NoRule" then some true else none) (ae 3)=D at e1
  simp?! only[e1]
 unfold sAs
 rw[fy]
 show HG 3 (cmS (hdB [some (.val v),some (.val .non),some (.val .non),some (.val (.exc "NoRule" none))] μ))=_
 rw[e2];rfl
theorem EK:gv=vg (az 2 (ax aZ [(ae 0)])) (λn=>if n="NoRule" then sAs 3 "NoRule" hdB else yC):=rfl
theorem oK{v:T}{o:Option T}(μ:aa)(h:aZ [.val v] μ=res o μ):bc [.val v] μ=.ok (.val (rv o)) μ:=by
 have g0:ja [some (.val v),none,none,none] μ=.nx [some (.val v),some (.val .non),none,none] μ:=by unfold ja;simp?! only[]
 have g1:jb [some (.val v),some (.val .non),none,none] μ=.nx [some (.val v),some (.val .non),some (.val .non),none] μ:=by unfold jb;simp?! only[]
 have fin:∀t:T,fN [some (.val v),none,none,none] μ=.rt (.val t) μ->bc [.val v] μ=.ok (.val t) μ:=λt ht=>by
  show(fN (starts 4 [.val v]) μ).oQ μ.length=_
  have:starts 4 [.val v]=[some (.val v),none,none,none]:=rfl
  rw[this,ht,eQ,gE,List.take_length]
 apply fin
 rw[zh,qR,g0,RS.aM,qS,g1,RS.aM,qT]
 cases o with
 | none =>
  rw[res_none] at h
  have e1:(az 2 (ax aZ [(ae 0)])) [some (.val v),some (.val .non),some (.val .non),none] μ=.err (.exc "NoRule" none) [some (.val v),some (.val .non),some (.val .non),none] μ:=by
   generalize aZ=F at h
   simp?! only[h,toS_err]
  have g2:gv [some (.val v),some (.val .non),some (.val .non),none] μ=.nx [some (.val v),some (.val (.bl true)),some (.val .non),none] μ:=by
   rw[EK]
   unfold vg
   rw[e1]
   show(if ("NoRule":Str)="NoRule" then sAs 3 "NoRule" hdB else yC) _ μ=_
   rw[if_pos rfl]
   exact Km v μ
  have g3:e9 [some (.val v),some (.val (.bl true)),some (.val .non),none] μ=.rt (.val (.tup [.non,.bl true])) μ:=by unfold e9;simp?! only[]
  rw[g2,RS.aM,kH,g3];rfl
 | some t =>
  rw[res_some] at h
  have e1:(az 2 (ax aZ [(ae 0)])) [some (.val v),some (.val .non),some (.val .non),none] μ=.nx [some (.val v),some (.val .non),some (.val t),none] μ:=by
   generalize aZ=F at h
   simp?! only[h]
  have g2:gv [some (.val v),some (.val .non),some (.val .non),none] μ=.nx [some (.val v),some (.val .non),some (.val t),none] μ:=by
   rw[EK]
   unfold vg
   rw[e1]
  have g3:e9 [some (.val v),some (.val .non),some (.val t),none] μ=.rt (.val (.tup [t,.non])) μ:=by unfold e9;simp?! only[]
  rw[g2,RS.aM,kH,g3];rfl
theorem j4{s:Str}(hl:s.length≤2000000)(μ:aa):aC [.val (.str s)] μ=.ok (.val (.bl true)) μ:=by
 have h1:=oK μ (jB hl μ)
 obtain⟨v,h2,hv⟩:=uG hl μ
 rw[EH] at hv
 unfold aC gW
 generalize bc=F at h1
 generalize cp=G at h2
 cases ho:rdR s with
 | none =>
  rw[ho] at h1
  have h1:_=R.ok (SV.val (.tup [.non,.bl true])) μ:=h1
  have:v=false:=by
   cases v with
   | false=>rfl
   | true=>obtain⟨t,ht⟩:=hv.mp rfl;rw[ho] at ht;cases ht
  rw[this] at h2
  have e1:yR true (.bl true)=some (.bl true):=rfl
  simp?! only[h1,iz,fE,i0,isK,h2,e1]
 | some t =>
  rw[ho] at h1
  have h1:_=R.ok (SV.val (.tup [t,.non])) μ:=h1
  have:v=true:=hv.mpr ⟨t,ho⟩
  rw[this] at h2
  obtain⟨a1,a2,a3⟩:=(rV s t).mp ho
  have e1:=EJ a1 (Nat.le_refl _) μ
  have e2:(tx 5 t==s)=true:=by rw[uD,um,a2];simp
  have e3:iw .non=some (.bl true):=rfl
  generalize cO 8=K at e1
  simp?! only[h1,iz,fE,i0,isK,h2,e3,e1,e2]
theorem uJ{v:T}(h:isT .str v=some (.bl false))(μ:aa):aC [.val v] μ=.ok (.val (.bl true)) μ:=by
 have h1:=oK μ (ma h μ)
 have h1:_=R.ok (SV.val (.tup [.non,.bl true])) μ:=h1
 have e1:yR true (.bl true)=some (.bl true):=rfl
 unfold aC gW
 generalize bc=F at h1
 simp?! only[h1,iz,fE,h,e1]
def rY(n:Nat)(r:List Nat):List Nat:=(List.replicate n (tl ("all (":Str))).flatten++r
theorem p9(n:Nat)(r:List Nat):rY (n+1) r=tl ("all (":Str)++rY n r:=by
 unfold rY
 rw[List.replicate_succ,List.flatten_cons,List.append_assoc]
theorem xR(r:List Nat):∀(d n:Nat),d<n->pr d (rY n r)=none
 | 0,n+1,_=>by
  rw[kW,p9,show fh (tl ("all (":Str)++rY n r)=some ("all (":Str) from lQ (by decide +kernel)]
 | d+1,n+1,h=>by
  rw[jf,p9,show fh (tl ("all (":Str)++rY n r)=some ("all (":Str) from lQ (by decide +kernel)]
  show(prs (pr d) ((tl ("all (":Str)++rY n r).drop ("all (":Str).length)).bind _=none
  rw[ay,List.drop_left]
  unfold prs
  rw[xR r d n (by lia)];rfl
theorem wA(x:Str):∀(n:Nat) (acc:Array Nat),((List.replicate n x.cps).foldl (·++·) acc).toList=acc.toList++(List.replicate n (tl x)).flatten
 | 0,acc=>by simp
 | n+1,acc=>by rw[List.replicate_succ,List.foldl_cons,wA x n,List.replicate_succ,List.flatten_cons];simp[tl]
theorem xS{x:Str}{n:Nat}(h1:2≤n)(h2:n≤1000)(h3:x.length≠0)(h4:x.length≤10):∃y:Str,ku (.str x) (.int n)=some (.str y)/\tl y=(List.replicate n (tl x)).flatten/\y.length=n*x.length:=by
 refine⟨⟨(List.replicate (n:Int).toNat x.cps).foldl (·++·) #[]⟩,?_,?_,?_⟩
 ·show(if 2≤(n:Int)/\(n:Int)<2 ^ 32/\x.length≠0/\x.length*(n:Int).toNat≤szL then _ else none)=_
  refine if_pos ⟨by lia,by lia,h3,?_⟩
  rw[Int.toNat_natCast]
  have:x.length*n≤10*1000:=Nat.mul_le_mul h4 h2
  rw[szL];lia
 ·have:=wA x n #[]
  rw[Int.toNat_natCast]
  simpa [tl] using this
 ·rw[ay]
  have:=wA x n #[]
  rw[Int.toNat_natCast]
  show(((List.replicate n x.cps).foldl (·++·) #[]).toList).length=_
  rw[this,ay]
  simp
def xT:D:=(ah av (ah av (ah ku (dC (.str "all (")) (ae 5)) (dC (.str "a"))) (ah ku (dC (.str ")")) (ae 5)))
theorem EL{n:Nat}(h1:6≤n)(h2:n≤1000)(x0 x1 x2 x3 x4:Option SV)(μ:aa):∃s:Str,xT [x0,x1,x2,x3,x4,some (.val (.int n))] μ=.ok (.val (.str s)) μ/\s.length≤2000000/\rdR s=none:=by
 obtain⟨a,ea,ta,la⟩:=xS (x:="all (") (n:=n) (by lia) h2 (by decide +kernel) (by decide +kernel)
 obtain⟨b,eb,tb,lb⟩:=xS (x:=")") (n:=n) (by lia) h2 (by decide +kernel) (by decide +kernel)
 rw[show("all (":Str).length=5 by decide +kernel] at la
 rw[show(")":Str).length=1 by decide +kernel] at lb
 have l1:("a":Str).length=1:=by decide +kernel
 have e1:av (.str a) (.str "a")=some (.str (a++"a")):=add_str (by rw[szL];lia) rfl
 have l2:(a++"a":Str).length=n*5+1:=by rw[Str.length_append];lia
 have e2:av (.str (a++"a")) (.str b)=some (.str (a++"a"++b)):=add_str (by rw[szL];lia) rfl
 refine⟨a++"a"++b,?_,?_,?_⟩
 ·unfold xT
  simp?! only[ea,eb,e1,e2]
 ·rw[Str.length_append];lia
 ·unfold rdR
  have:tl (a++"a"++b)=rY n (tl ("a":Str)++tl b):=by
   rw[jY,jY,ta]
   unfold rY
   rw[List.append_assoc]
  rw[this,xR _ 5 n (by lia)];rfl
def o7(n:Nat)(L:List T):Prop:=∀t∈L,∃x,t=.str x/\x.length≤n
theorem o7.app{n:Nat}{L M:List T}(h1:o7 n L)(h2:o7 n M):o7 n (L++M):=λt ht=>by
 rcases List.mem_append.mp ht with h|h
 ·exact h1 t h
 ·exact h2 t h
theorem o7.one{n:Nat}{x:Str}(h:x.length≤n):o7 n [.str x]:=λt ht=>by
 rw[List.mem_singleton] at ht
 exact⟨x,ht,h⟩
theorem rZ{L:List T}{i:Int}(h0:0≤i)(h1:i<L.length):∃t∈L,atI L i=some t:=by
 rw[fF h0]
 refine⟨L[i.toNat]'(by lia),List.getElem_mem _,List.getElem?_eq_getElem _⟩
theorem ad{x y:Str}(hx:x.length≤5000000)(hy:y.length≤5000000):av (.str x) (.str y)=some (.str (x++y)):=add_str (by rw[szL];lia) rfl
theorem eN{x y:Str}{n m:Nat}(hx:x.length≤n)(hy:y.length≤m):(x++y).length≤n+m:=by rw[Str.length_append];lia
theorem wB{s:Str}(h0:0<s.length)(hl:s.length≤900000)(c:Int)(μ:aa):∃s':Str,bC [.val (.str s),.val (.int c)] μ=.ok (.val (.str s')) μ/\s'.length≤2000000:=by
 have el:jg μ (.val (.str s))=some (.int (s.length:Int)):=if_pos (by rw[szL];lia)
 have MA:(0:Int)<(s.length:Int):=by lia
 have a0:=Int.emod_nonneg (c / 5) (show(s.length:Int)≠0 by lia)
 have a1:=Int.emod_lt_of_pos (c / 5) MA
 have m1:bp (.int (c / 5)) (.int (s.length:Int))=some (.int (c / 5%(s.length:Int))):=kb _ _ MA
 obtain⟨a,ha⟩:∃a:Int,a=c / 5%(s.length:Int):=⟨_,rfl⟩
 rw[← ha] at a0 a1 m1
 have Hj:∀lo hi,iJ (.str s) lo hi=some (.str (dS s lo hi)):=λlo hi=>fx (by rw[szL];lia)
 have Hk:∀lo hi,(dS s lo hi).length≤900000:=λlo hi=>Nat.le_trans (rM s lo hi) hl
 have b0:=Int.emod_nonneg (c / 5000) (show(32:Int)≠0 by lia)
 have b1:=Int.emod_lt_of_pos (c / 5000) (show(0:Int)<32 by lia)
 obtain⟨sg,es⟩:∃sg:Nat,iy μ (.val (.str "abcdefghijklmnof ,()0123456789A-")) (.int (c / 5000%32))=some (.val (.str ⟨#[sg]⟩)):=by
  rw[dJ]
  show ∃sg:Nat,(if ("abcdefghijklmnof ,()0123456789A-":Str).length≤szL then (atI (tl ("abcdefghijklmnof ,()0123456789A-":Str)) (c / 5000%32)).map λc=>T.str ⟨#[c]⟩ else none).map SV.val=_
  rw[if_pos (by decide +kernel),fF b0,List.getElem?_eq_getElem (by rw[show(tl ("abcdefghijklmnof ,()0123456789A-":Str)).length=32 by decide +kernel];lia)]
  exact⟨_,rfl⟩
 obtain⟨ch,ec⟩:∃ch:Nat,iy μ (.val (.str s)) (.int a)=some (.val (.str ⟨#[ch]⟩)):=by
  rw[dJ]
  show ∃ch:Nat,(if s.length≤szL then (atI (tl s) a).map λc=>T.str ⟨#[c]⟩ else none).map SV.val=_
  rw[if_pos (by rw[szL];lia),fF a0,List.getElem?_eq_getElem (by rw[← ay];lia)]
  exact⟨_,rfl⟩
 have MB:∀x:Nat,(⟨#[x]⟩:Str).length≤1:=λx=>Nat.le_refl 1
 have p1:=Hk none (some a)
 have p2:=Hk (some (a+1)) none
 have p3:=Hk (some a) none
 have p4:=Hk none (some (a+1))
 have s1:=MB sg
 have s2:=MB ch
 generalize (⟨#[sg]⟩:Str)=sg at es s1
 generalize (⟨#[ch]⟩:Str)=ch at ec s2
 have c1:=Hj none (some a)
 have c2:=Hj (some (a+1)) none
 have c3:=Hj (some a) none
 have c4:=Hj none (some (a+1))
 generalize dS s none (some a)=L1 at p1 c1
 generalize dS s (some (a+1)) none=R1 at p2 c2
 generalize dS s (some a) none=R0 at p3 c3
 generalize dS s none (some (a+1))=L2 at p4 c4
 have q1:=eN p1 p2
 have q2:=eN p1 s1
 have q3:=eN q2 p3
 have q4:=eN q2 p2
 have q5:=eN p1 s2
 have q6:=eN q5 p3
 have e1:=ad (x:=L1) (y:=R1) (by lia) (by lia)
 have e2:=ad (x:=L1) (y:=sg) (by lia) (by lia)
 have e3:=ad (x:=L1++sg) (y:=R0) (by lia) (by lia)
 have e4:=ad (x:=L1++sg) (y:=R1) (by lia) (by lia)
 have e5:=ad (x:=L1) (y:=ch) (by lia) (by lia)
 have e6:=ad (x:=L1++ch) (y:=R0) (by lia) (by lia)
 have d0:=Int.emod_nonneg c (show(5:Int)≠0 by lia)
 have d1:=Int.emod_lt_of_pos c (show(0:Int)<5 by lia)
 obtain⟨t,ht,ei⟩:=rZ (L:=[.str (L1++R1),.str (L1++sg++R0),.str (L1++sg++R1),.str (L1++ch++R0),.str L2]) (i:=c%5) d0 (by show c%5<(5:Nat);lia)
 have el1:av (.lst [.str (L1++R1),.str (L1++sg++R0),.str (L1++sg++R1)]) (.lst [.str (L1++ch++R0),.str L2])=some (.lst [.str (L1++R1),.str (L1++sg++R0),.str (L1++sg++R1),.str (L1++ch++R0),.str L2]):=Bs _ _ (by rw[szL];simp)
 have hx:∃x:Str,t=.str x/\x.length≤2000000:=by
  simp only[List.mem_cons,List.not_mem_nil,or_false] at ht
  rcases ht with rfl|rfl|rfl|rfl|rfl
  ·exact⟨_,rfl,by lia⟩
  ·exact⟨_,rfl,by lia⟩
  ·exact⟨_,rfl,by lia⟩
  ·exact⟨_,rfl,by lia⟩
  ·exact⟨_,rfl,by lia⟩
 obtain⟨x,rfl,lx⟩:=hx
 refine⟨x,?_,lx⟩
 unfold bC ju
 simp?! only[el,m1,es,bT,c1,c2,c3,c4,ec,e1,e2,e3,e4,e5,e6,el1,ei]
theorem uK{e:Slots}{μ:aa}:∀(ps:List (D×Str)),(∀p∈ps,p.1 e μ=.ok (.val (.str p.2)) μ)->bW (ps.map (·.1)) e μ=.ok (ps.map λp=>.val (.str p.2)) μ/\bS (ps.map λp=>SV.val (.str p.2)) μ=.ok (ps.map λp=>.str p.2) μ
 | [],_=>⟨by simp?! only[],by simp?! only[]⟩
 | p::ps,h=>by
  obtain⟨h1,h2⟩:=uK ps λq hq=>h q (List.mem_cons_of_mem _ hq)
  have h3:=h p List.mem_cons_self
  rw[List.map_cons,List.map_cons,List.map_cons]
  generalize ps.map (·.1)=ds at h1
  generalize (ps.map λp=>SV.val (.str p.2))=xs at h1 h2
  generalize (ps.map λp=>T.str p.2)=ts at h2
  exact⟨by simp?! only[h3,h1],by simp?! only[h2]⟩
theorem p_{e:Slots}{μ:aa}(ps:List (D×Str))(h:∀p∈ps,p.1 e μ=.ok (.val (.str p.2)) μ):bq (ps.map (·.1)) e μ=.ok (.val (.lst (ps.map λp=>.str p.2))) μ:=by
 obtain⟨h1,h2⟩:=uK ps h
 rw[wU,h1,R.aQ,h2,R.aQ]
abbrev kc(cs:List Str):List (D×Str):=cs.map λx=>(dC (.str x),x)
theorem uL(cs:List Str)(e:Slots)(μ:aa):∀p∈kc cs,p.1 e μ=.ok (.val (.str p.2)) μ:=λp hp=>by
 obtain⟨x,_,rfl⟩:=List.mem_map.mp hp
 simp?! only[]
def C1:List Str:=[""," ","k","A","all","all ()","all a","all(a)","all (a","all (a))","one (a)","1 of (a, b)"]
def C2:List Str:=["a, b","2 of (a, b)","2 of (a, b, c)","02 of (a, b, c)","3 of (a, b)","0 of (a, b)","a "]
def C3:List Str:=["10 of (a, b)","all (a,b)","all (a,  b)","all (a, b, )","All (a, b)","one  (a, b)","\na"]
def C4:List Str:=["one of (a, b)","two of (a, b, c)","2 of (a, b, c) "," 2 of (a, b, c)","2  of (a, b, c)"]
def C5:List Str:=["2 of(a, b, c)","all (a, a)","(a, b)","2 of [a, b, c]","all (1)","one (a, b) c","a\n"]
theorem Ie:∀x∈C1++C2++C3++C4++C5,x.length≤1000:=by decide +kernel
theorem Hl:kD=az 4 (bQ (bq ((kc C1).map (·.1)))):=rfl
theorem Hm:nN=az 4 (bQ (ah eO (ae 4) (bq ((kc C2).map (·.1))))):=rfl
theorem Hn:nO=az 4 (bQ (ah eO (ae 4) (bq ((kc C3).map (·.1))))):=rfl
theorem Ho:nP=az 4 (bQ (ah eO (ae 4) (bq ((kc C4).map (·.1))))):=rfl
theorem Hq(x:Str):kE=az 4 (bQ (ah eO (ae 4) (bq ((kc C5++[(ae 1,x)]).map (·.1))))):=rfl
def At4(n:Nat)(μ:aa)(c:Int)(x:Str)(m:Int)(e:Slots)(ν:aa):Prop:=∃W k L y2,ν=μ++W/\e=[some (.val (.int c)),some (.val (.str x)),y2,some (.val (.int m)),some (.cel k),none]/\ν[k]?=some (true,.lst L)/\μ.length≤k/\L.length=n/\o7 1000 L
theorem Hr{n:Nat}{μ:aa}{c:Int}{x:Str}{m:Int}{e:Slots}{ν:aa}(hA:At4 n μ c x m e ν)(hn:n≤1000)(ps:List (D×Str))(hp:∀p∈ps,p.1 e ν=.ok (.val (.str p.2)) ν)(hps:∀p∈ps,p.2.length≤1000)(hpl:ps.length≤1000) :
  ∃e' ν',az 4 (bQ (ah eO (ae 4) (bq (ps.map (·.1))))) e ν=.nx e' ν'/\At4 (n+ps.length) μ c x m e' ν':=by
 obtain⟨W,k,L,y2,rfl,rfl,hk,hkm,hL,hS⟩:=hA
 have h1:=p_ ps hp
 generalize hM:(ps.map λp=>T.str p.2)=M at h1
 have hMl:M.length=ps.length:=by rw[← hM];simp
 have hMs:o7 1000 M:=λt ht=>by
  rw[← hM] at ht
  obtain⟨p,hp,rfl⟩:=List.mem_map.mp ht
  exact⟨_,rfl,hps p hp⟩
 generalize bq (ps.map (·.1))=D at h1
 have ea:eO (.lst L) (.lst M)=some (.lst (L++M)):=if_pos (by rw[szL];lia)
 have er:(((μ++W):aa)[k]?).map (·.2)=some (.lst L):=by rw[hk];rfl
 refine⟨[some (.val (.int c)),some (.val (.str x)),y2,some (.val (.int m)),some (.cel (μ++W).length),none],(μ++W)++[(true,.lst (L++M))],?_,W++[(true,.lst (L++M))],(μ++W).length,L++M,y2,by simp,rfl,by simp,by simp,by rw[List.length_append];lia,hS.app hMs⟩
 generalize μ++W=ν at *
 simp?! only[h1,er,ea]
theorem EM(t:T)(n:Nat):(List.replicate n [t]).flatten=List.replicate n t:=by
 induction n with
 | zero=>rfl
 | succ n ih=>rw[List.replicate_succ,List.flatten_cons,ih,List.replicate_succ];rfl
theorem uM{ws:List Str}{n:Nat}(h:∀w∈ws,w.length≤n):(Txt.join ", " ws).length≤ws.length*(n+2):=by
 cases ws with
 | nil=>rw[show(Txt.join ", " []).length=0 by decide +kernel];exact Nat.zero_le _
 | cons w ws =>
  rw[ay,rB,List.length_append,List.length_cons,← ay]
  have h1:=h w List.mem_cons_self
  have h2:∀us:List Str,(∀w∈us,w.length≤n)->(us.flatMap λx=>tl (", ":Str)++tl x).length≤us.length*(n+2):=by
   intro us
   induction us with
   | nil=>intro _;simp
   | cons u us ih =>
    intro hu
    have a1:=hu u List.mem_cons_self
    have a2:=ih λv hv=>hu v (List.mem_cons_of_mem _ hv)
    rw[List.flatMap_cons,List.length_append,List.length_append,← ay,← ay,mF,List.length_cons,Nat.succ_mul]
    lia
  have:=h2 ws λv hv=>h v (List.mem_cons_of_mem _ hv)
  rw[Nat.succ_mul]
  lia
theorem uN{ws:List Str}{n:Nat}(h:∀w∈ws,w.length≤n)(hn:n≤1000)(hl:ws.length≤1000):cT ", " (.lst (ws.map T.str))=some (.str (Txt.join ", " ws)):=by
 show(fY (ws.map T.str)).bind (λys=>if JoinOk ", " ys=true then some (T.str (Txt.join ", " ys)) else none)=_
 rw[jM,Option.bind_some]
 refine if_pos (xq (n:=1000) (λw hw=>Nat.le_trans (h w hw) hn) ?_)
 rw[mF,szL]
 have:ws.length*(1000+2)≤1000*(1000+2):=Nat.mul_le_mul_right _ hl
 lia
theorem qa{x:Str}(hx:x.length≤1){d:D}{e:Slots}{μ:aa}{i:Nat}(hi:i≤20)(h:d e μ=.ok (.val (.int i)) μ):∃z:Str,ah av (ah av (dC (.str "all (")) (bw cT (dC (.str ", ")) (lZ l4 [(dC (.str x))] d))) (dC (.str ")")) e μ=.ok (.val (.str z)) μ/\z.length≤66:=by
 have er:l4 (.lst [.str x]) (.int i)=some (.lst ((List.replicate i x).map T.str)):=by
  rw[GW _ _ ⟨by lia,by lia,by rw[szL];simp;lia⟩,Int.toNat_natCast,EM,List.map_replicate]
 have hw:∀w∈List.replicate i x,w.length≤1:=λw hw=>by rw[(List.mem_replicate.mp hw).2];exact hx
 have ej:=uN hw (by lia) (by rw[List.length_replicate];lia)
 have lj:=uM hw
 rw[List.length_replicate] at lj
 generalize (List.replicate i x).map T.str=us at er ej
 generalize Txt.join ", " (List.replicate i x)=y at ej lj
 have l1:("all (":Str).length≤5:=by decide +kernel
 have l2:(")":Str).length≤1:=by decide +kernel
 have q1:=eN l1 lj
 have q2:=eN q1 l2
 have e1:=ad (x:="all (") (y:=y) (by lia) (by lia)
 have e2:=ad (x:="all ("++y) (y:=")") (by lia) (by lia)
 refine⟨"all ("++y++")",?_,by lia⟩
 simp?! only[fk,aV,Fq,h,er,ej,e1,e2]
def Kn:DS:=(az 1 (ah av (ah av (aF (bq [(dC (.str "all (")),(dC (.str "one (a, ")),(dC (.str "2 of (b, c, "))]) (ah bp (ah cB (ae 0) (dC (.int 160))) (dC (.int 3)))) (ae 1)) (dC (.str ")"))))
theorem Hs:kB=fg (cY (ah av (dC (.int 4)) (ah bp (ah cB (ae 0) (dC (.int 40))) (dC (.int 4))))) (aS 2) Kn:=rfl
theorem EN(c:Int)(x:Str)(hx:x.length≤1)(μ:aa):∃(y:Str) (y2:Option SV),kB [some (.val (.int c)),some (.val (.str x)),none,none,none,none] μ=.nx [some (.val (.int c)),some (.val (.str y)),y2,none,none,none] μ/\y.length≤1000:=by
 have a0:=Int.emod_nonneg (c / 40) (show(4:Int)≠0 by lia)
 have a1:=Int.emod_lt_of_pos (c / 40) (show(0:Int)<4 by lia)
 have b0:=Int.emod_nonneg (c / 160) (show(3:Int)≠0 by lia)
 have b1:=Int.emod_lt_of_pos (c / 160) (show(0:Int)<3 by lia)
 obtain⟨t,ht,ei⟩:=rZ (L:=[.str "all (",.str "one (a, ",.str "2 of (b, c, "]) (i:=c / 160%3) b0 (by show c / 160%3<(3:Nat);lia)
 obtain⟨w,rfl,lw⟩:∃w:Str,t=.str w/\w.length≤12:=by
  simp only[List.mem_cons,List.not_mem_nil,or_false] at ht
  rcases ht with rfl|rfl|rfl
  ·exact⟨_,rfl,by decide +kernel⟩
  ·exact⟨_,rfl,by decide +kernel⟩
  ·exact⟨_,rfl,by decide +kernel⟩
 have rn:dw (4+c / 40%4)=true:=gi (by lia) (by lia)
 have l2:(")":Str).length≤1:=by decide +kernel
 have hf:=mv (same:=λ_=>True) (b:=aS 2) (body:=Kn) (ts:=cj 0 (4+c / 40%4).toNat)
  (I:=λi e μ1=>μ1=μ/\∃(y:Str) (y2:Option SV),e=[some (.val (.int c)),some (.val (.str y)),y2,none,none,none]/\y.length≤1+13*i)
  (λ_ _ _ _=>trivial) (λi t e μ1 ht hI=>by
   obtain⟨rfl,y,y2,rfl,hy⟩:=hI
   obtain⟨q,rfl,hq,hqi⟩:=qE ht
   have hi:(i:Int)<8:=by lia
   have q1:=eN lw hy
   have q2:=eN q1 l2
   have e1:=ad (x:=w) (y:=y) (by lia) (by lia)
   have e2:=ad (x:=w++y) (y:=")") (by lia) (by lia)
   refine⟨_,_,μ1,rfl,?_,rfl,w++y++")",some (.val (.int q)),rfl,by lia⟩
   unfold Kn
   simp?! only[ei,e1,e2])
  (e:=[some (.val (.int c)),some (.val (.str x)),none,none,none,none]) (μ:=μ) ⟨rfl,x,none,rfl,by lia⟩
 obtain⟨e',μ',hf,rfl,y,y2,rfl,hy⟩:=hf
 rw[gm,List.length_map,oS] at hy
 refine⟨y,y2,?_,by lia⟩
 rw[Hs]
 simp?! only[rn,hf]
theorem Ht(c:Int)(μ:aa):∃s:Str,dq [.val (.int c)] μ=.ok (.val (.str s)) μ/\s.length≤2000000:=by
 have g0:kA [some (.val (.int c)),none,none,none,none,none] μ=.nx [some (.val (.int c)),some (.val (.str "a")),none,none,none,none] μ:=by unfold kA;simp?! only[]
 obtain⟨x,y2,g1,hx⟩:=EN c "a" (by decide +kernel) μ
 have m0:=Int.emod_nonneg (c / 40) (show(3:Int)≠0 by lia)
 have m1:=Int.emod_lt_of_pos (c / 40) (show(0:Int)<3 by lia)
 have g2:kC [some (.val (.int c)),some (.val (.str x)),y2,none,none,none] μ=.nx [some (.val (.int c)),some (.val (.str x)),y2,some (.val (.int (19+c / 40%3))),none,none] μ:=by unfold kC;simp?! only[]
 obtain⟨m,hm⟩:∃m:Int,m=19+c / 40%3:=⟨_,rfl⟩
 rw[← hm] at g2
 have h3:∃e' ν',kD [some (.val (.int c)),some (.val (.str x)),y2,some (.val (.int m)),none,none] μ=.nx e' ν'/\At4 12 μ c x m e' ν':=by
  have h1:=p_ (e:=[some (.val (.int c)),some (.val (.str x)),y2,some (.val (.int m)),none,none]) (μ:=μ) (kc C1) (uL C1 _ _)
  have hS:o7 1000 ((kc C1).map λp=>T.str p.2):=λt ht=>by
   obtain⟨p,hp,rfl⟩:=List.mem_map.mp ht
   obtain⟨z,hz,rfl⟩:=List.mem_map.mp hp
   exact⟨_,rfl,Ie z (by simp[hz])⟩
  have hl:((kc C1).map λp=>T.str p.2).length=12:=by simp[C1]
  rw[Hl]
  generalize ((kc C1).map λp=>T.str p.2)=M at h1 hS hl
  generalize bq ((kc C1).map (·.1))=D at h1
  exact⟨_,_,by simp?! only[h1],[(true,.lst M)],μ.length,M,y2,rfl,rfl,by simp,Nat.le_refl _,hl,hS⟩
 obtain⟨e3,ν3,g3,A3⟩:=h3
 have kl:∀cs:List Str,(∀z∈cs,z∈C1++C2++C3++C4++C5)->∀p∈kc cs,p.2.length≤1000:=λcs hc p hp=>by
  obtain⟨z,hz,rfl⟩:=List.mem_map.mp hp
  exact Ie z (hc z hz)
 obtain⟨e4,ν4,g4,A4⟩:=Hr A3 (by lia) (kc C2) (uL C2 _ _) (kl C2 λz hz=>by simp[hz]) (by simp[C2])
 obtain⟨e5,ν5,g5,A5⟩:=Hr A4 (by simp[C2]) (kc C3) (uL C3 _ _) (kl C3 λz hz=>by simp[hz]) (by simp[C3])
 obtain⟨e6,ν6,g6,A6⟩:=Hr A5 (by simp[C2,C3]) (kc C4) (uL C4 _ _) (kl C4 λz hz=>by simp[hz]) (by simp[C4])
 have h7:∃e' ν',kE e6 ν6=.nx e' ν'/\At4 39 μ c x m e' ν':=by
  have:=Hr A6 (by simp[C2,C3,C4]) (kc C5++[(ae 1,x)]) (λp hp=>by
   rcases List.mem_append.mp hp with hp|hp
   ·exact uL C5 _ _ p hp
   ·rw[List.mem_singleton] at hp
    subst hp
    obtain⟨W,k,L,y,rfl,rfl,_⟩:=A6
    simp?! only[]) (λp hp=>by
   rcases List.mem_append.mp hp with hp|hp
   ·exact kl C5 (λz hz=>by simp[hz]) p hp
   ·rw[List.mem_singleton] at hp
    subst hp
    exact hx) (by simp[C5])
  rw[Hq x]
  simpa [C2,C3,C4,C5] using this
 obtain⟨e7,ν7,g7,W,k,L,y,rfl,rfl,hk,hkm,hL,hS⟩:=h7
 have f0:=Int.emod_nonneg (c / 40) (show(2:Int)≠0 by lia)
 have f1:=Int.emod_lt_of_pos (c / 40) (show(0:Int)<2 by lia)
 obtain⟨z8,ez8,lz8⟩:=qa (x:="a") (by decide +kernel) (d:=ah av (dC (.int 10)) (ah bp (ah cB (ae 0) (dC (.int 40))) (dC (.int 2)))) (e:=[some (.val (.int c)),some (.val (.str x)),y,some (.val (.int m)),some (.cel k),none]) (μ:=μ++W) (i:=(10+c / 40%2).toNat) (by lia) (by
  rw[show(((10+c / 40%2).toNat:Nat):Int)=10+c / 40%2 by lia]
  generalize μ++W=ν
  simp?! only[])
 have hk2:k<(μ++W).length:=(List.getElem?_eq_some_iff.mp hk).1
 obtain⟨V,hV⟩:∃V,(μ++W).set k (true,.lst (L++[.str z8]))=μ++V:=⟨_,by rw[List.set_append_right (h:=hkm)]⟩
 have g8:kF [some (.val (.int c)),some (.val (.str x)),y,some (.val (.int m)),some (.cel k),none] (μ++W)=.nx [some (.val (.int c)),some (.val (.str x)),y,some (.val (.int m)),some (.cel k),none] (μ++V):=by
  have ea:=append_at (t:=.str z8) hk (by rw[szL];lia)
  rw[hV] at ea
  have els:=qq hk
  unfold kF
  generalize (ah av (ah av (dC (.str "all (")) (bw cT (dC (.str ", ")) (lZ l4 [(dC (.str "a"))] (ah av (dC (.int 10)) (ah bp (ah cB (ae 0) (dC (.int 40))) (dC (.int 2))))))) (dC (.str ")")))=D at ez8
  generalize μ++W=ν at *
  simp?! only[ez8,els,ea]
 have hkV:(μ++V)[k]?=some (true,.lst (L++[.str z8])):=by rw[← hV,List.getElem?_set_self hk2]
 have grp:∀(i:Nat),i≤20->∃z:Str,ah av (ah av (dC (.str "all (")) (bw cT (dC (.str ", ")) (lZ l4 [(dC (.str "j"))] (ae 0)))) (dC (.str ")")) [some (.val (.int i))] (μ++V)=.ok (.val (.str z)) (μ++V)/\z.length≤66:=λi hi=>qa (x:="j") (by decide +kernel) hi (by simp?! only[])
 obtain⟨za,ea,la⟩:=grp 7 (by lia)
 obtain⟨zb,eb,lb⟩:=grp (m-14).toNat (by lia)
 rw[show(((m-14).toNat:Nat):Int)=m-14 by lia] at eb
 have g9:kG [some (.val (.int c)),some (.val (.str x)),y,some (.val (.int m)),some (.cel k),none] (μ++V)=.nx [some (.val (.int c)),some (.val (.str x)),y,some (.val (.int m)),some (.cel k),some (.val (.lst [.str za,.str za,.str zb]))] (μ++V):=by
  have hc:=λ(same:aa->Prop) (hs':same (μ++V))=>pK (same:=same) (b:=aS 0) (d:=ah av (ah av (dC (.str "all (")) (bw cT (dC (.str ", ")) (lZ l4 [(dC (.str "j"))] (ae 0)))) (dC (.str ")"))) (e:=[none]) (μ:=μ++V) (λa:Int×T=>T.int a.1) (λa=>a.2) hs' [(7,T.str za),(7,T.str za),(m-14,T.str zb)] λa ha=>by
   refine⟨_,rfl,?_⟩
   simp only[List.mem_cons,List.not_mem_nil,or_false] at ha
   rcases ha with rfl|rfl|rfl
   ·exact ea
   ·exact ea
   ·exact eb
  simp only[List.map_cons,List.map_nil] at hc
  unfold kG
  generalize (ah av (ah av (dC (.str "all (")) (bw cT (dC (.str ", ")) (lZ l4 [(dC (.str "j"))] (ae 0)))) (dC (.str ")")))=D at hc
  have z3:(0+1+1+1:Nat)≤szL:=by decide
  generalize μ++V=ν at *
  simp?! only[hc (λ_=>True) trivial,z3]
 have hw3:∀w∈[za,za,zb],w.length≤66:=λw hw=>by
  simp only[List.mem_cons,List.not_mem_nil,or_false] at hw
  rcases hw with rfl|rfl|rfl
  ·exact la
  ·exact la
  ·exact lb
 have ej:cT ", " (.lst [.str za,.str za,.str zb])=some (.str (Txt.join ", " [za,za,zb])):=uN (ws:=[za,za,zb]) hw3 (by lia) (by simp)
 have lj:=uM hw3
 generalize Txt.join ", " [za,za,zb]=yj at ej lj
 have lj:yj.length≤204:=by simpa using lj
 have l1:("all (":Str).length≤5:=by decide +kernel
 have l2:(")":Str).length≤1:=by decide +kernel
 have q1:=eN l1 lj
 have q2:=eN q1 l2
 have e1:=ad (x:="all (") (y:=yj) (by lia) (by lia)
 have e2:=ad (x:="all ("++yj) (y:=")") (by lia) (by lia)
 obtain⟨U,hU⟩:∃U,(μ++V).set k (true,.lst (L++[.str z8]++[.str ("all ("++yj++")")]))=μ++U:=⟨_,by rw[List.set_append_right (h:=hkm)]⟩
 have hk3:k<(μ++V).length:=(List.getElem?_eq_some_iff.mp hkV).1
 have g10:i9 [some (.val (.int c)),some (.val (.str x)),y,some (.val (.int m)),some (.cel k),some (.val (.lst [.str za,.str za,.str zb]))] (μ++V)=.nx [some (.val (.int c)),some (.val (.str x)),y,some (.val (.int m)),some (.cel k),some (.val (.lst [.str za,.str za,.str zb]))] (μ++U):=by
  have ea:=append_at (t:=.str ("all ("++yj++")")) hkV (by rw[szL];simp;lia)
  rw[hU] at ea
  have els:=qq hkV
  unfold i9
  generalize μ++V=ν at *
  simp?! only[fk,aV,ej,e1,e2,els,ea]
 have hkU:(μ++U)[k]?=some (true,.lst (L++[.str z8]++[.str ("all ("++yj++")")])):=by rw[← hU,List.getElem?_set_self hk3]
 have hSU:o7 1000 (L++[.str z8]++[.str ("all ("++yj++")")]):=(hS.app (.one (by lia))).app (.one (by lia))
 have hLU:(L++[T.str z8]++[T.str ("all ("++yj++")")]).length=41:=by simp;lia
 generalize L++[T.str z8]++[T.str ("all ("++yj++")")]=LU at hkU hSU hLU
 have r0:=Int.emod_nonneg c (show(41:Int)≠0 by lia)
 have r1:=Int.emod_lt_of_pos c (show(0:Int)<41 by lia)
 obtain⟨t,ht,ei⟩:=rZ (L:=LU) (i:=c%41) r0 (by lia)
 obtain⟨s,rfl,ls⟩:=hSU t ht
 have er:(((μ++U):aa)[k]?).map (·.2)=some (.lst LU):=by rw[hkU];rfl
 have g11:i_ [some (.val (.int c)),some (.val (.str x)),y,some (.val (.int m)),some (.cel k),some (.val (.lst [.str za,.str za,.str zb]))] (μ++U)=.rt (.val (.str s)) (μ++U):=by
  unfold i_
  generalize μ++U=ν at *
  simp?! only[sH,er,ix,ei]
 refine⟨s,?_,by lia⟩
 show(jU (starts 6 [.val (.int c)]) μ).oQ μ.length=_
 have:starts 6 [.val (.int c)]=[some (.val (.int c)),none,none,none,none,none]:=rfl
 rw[this,Df,tM,g0,RS.aM,tN,g1,RS.aM,tO,g2,RS.aM,tP,g3,RS.aM,tQ,Hm,g4,RS.aM,tR,Hn,g5,RS.aM,tS,Ho,g6,RS.aM,tT,g7,RS.aM,tU,g8,RS.aM,tV,g9,RS.aM,qP,g10,RS.aM,qQ,g11,eQ,gE,List.take_left]
def EO:DS:=(aq (az 3 (ax (cal aO) [(ae 0),(ah av (dC (.int 10)) (ae 2))]))
 (sIf (dOr (gA (ax (cal aC) [(ax (cal bC) [(ae 1),(ah cB (ae 3) (dC (.int 2)))])])) (gA (ax (cal aC) [(ax (cal dq) [(ae 3)])]))) (aK (dC (.bl false))) a6))
theorem Hu:qV=fg (cY (dC (.int 12))) (aS 2) EO:=rfl
def xU:DS:=(sIf (gA (ax (cal aC) [(ae 4)])) (aK (dC (.bl false))) a6)
theorem Hv:qW=fg (fB (bq [(dC (.non)),(dC (.int 7)),(dC (.bl true)),(bq [(dC (.str "a"))]),(eP [(dC (.str "hand")),(dC (.int 0))])])) (aS 4) xU:=rfl
theorem Hw:qY=sIf (dUn (m9 true) (aF (ax (cal bc) [xT]) (dC (.int 1)))) (aK (dC (.bl false))) a6:=rfl
theorem ER(ns:List Int){s:Str}(h0:0<s.length)(hl:s.length≤900000)(μ:aa):∃y2 y3,qV [some (.val (.lst (ns.map T.int))),some (.val (.str s)),none,none,none,none] μ=.nx [some (.val (.lst (ns.map T.int))),some (.val (.str s)),y2,y3,none,none] μ:=by
 have rn:dw 12=true:=gi (by lia) (by lia)
 have hf:=mv (same:=λ_=>True) (b:=aS 2) (body:=EO) (ts:=cj 0 (12:Int).toNat)
  (I:=λi e μ1=>μ1=μ/\∃y2 y3,e=[some (.val (.lst (ns.map T.int))),some (.val (.str s)),y2,y3,none,none])
  (λ_ _ _ _=>trivial) (λi t e μ1 ht hI=>by
   obtain⟨rfl,y2,y3,rfl⟩:=hI
   obtain⟨q,rfl,hq,hqi⟩:=qE ht
   have hi:(i:Int)<12:=by lia
   obtain⟨c,hc⟩:=xQ ns (10+q) (by lia) (by lia)
   have hc:=hc μ1
   obtain⟨a,ea,la⟩:=wB h0 hl (c / 2) μ1
   obtain⟨b,eb,lb⟩:=Ht c μ1
   have ra:=j4 la μ1
   have rb:=j4 lb μ1
   refine⟨_,_,μ1,rfl,?_,rfl,some (.val (.int q)),some (.val (.int c)),rfl⟩
   unfold EO
   generalize aC=F at ra rb
   generalize aO=G at hc
   generalize bC=K at ea
   generalize dq=N at eb
   generalize ns.map T.int=us at *
   simp?! only[hc,ea,ra,eb,rb])
  (e:=[some (.val (.lst (ns.map T.int))),some (.val (.str s)),none,none,none,none]) (μ:=μ) ⟨rfl,none,none,rfl⟩
 obtain⟨e',μ',hf,rfl,y2,y3,rfl⟩:=hf
 refine⟨y2,y3,?_⟩
 rw[Hu]
 generalize ns.map T.int=us at *
 simp?! only[rn,hf]
theorem ES(x0 x1 x2 x3:Option SV)(μ:aa):∃y4,qW [x0,x1,x2,x3,none,none] μ=.nx [x0,x1,x2,x3,y4,none] μ:=by
 have step:∀(v:T) (x4:Option SV),isT .str v=some (.bl false)->xU [x0,x1,x2,x3,some (.val v),none] μ=.nx [x0,x1,x2,x3,some (.val v),none] μ:=λv x4 h=>by
  have r:=uJ h μ
  unfold xU
  generalize aC=F at r
  simp?! only[r]
 have hf:=mv (same:=λ_=>True) (b:=aS 4) (body:=xU) (ts:=[.non,.int 7,.bl true,.lst [.str "a"],.tup [.str "hand",.int 0]])
  (I:=λi e μ1=>μ1=μ/\∃y4,e=[x0,x1,x2,x3,y4,none])
  (λ_ _ _ _=>trivial) (λi t e μ1 ht hI=>by
   obtain⟨rfl,y4,rfl⟩:=hI
   refine⟨_,_,μ1,rfl,step t none ?_,rfl,_,rfl⟩
   have:=List.mem_of_getElem? ht
   simp only[List.mem_cons,List.not_mem_nil,or_false] at this
   rcases this with rfl|rfl|rfl|rfl|rfl<;>rfl)
  (e:=[x0,x1,x2,x3,none,none]) (μ:=μ) ⟨rfl,none,rfl⟩
 obtain⟨e',μ',hf,rfl,y4,rfl⟩:=hf
 refine⟨y4,?_⟩
 rw[Hv]
 simp?! only[hf]
theorem Ko{d:Nat}{t:T}(h:IsR d t):0<(tx d t).length:=by
 rw[wj]
 have:=(wt d t h).ne
 exact List.length_pos_iff.mpr this
theorem holds:∀ns:List Int,ns.length≤63->∃μ',lG [.val (.lst (ns.map T.int))] []=.ok (.val (.bl true)) μ':=by
 intro ns _
 obtain⟨μ,hμ⟩:∃μ:aa,μ=[]:=⟨_,rfl⟩
 rw[← hμ]
 clear hμ
 obtain⟨d,t,hd,ht,hw,e1⟩:=AI ns 1 (by lia) μ
 have e2:=Hh ht hd μ
 have l0:=Ko ht
 have l1:(tx d t).length≤900000:=by
  rw[wj]
  have:=Nat.le_trans (mz d t ht) (we d hd)
  lia
 have g0:qU [some (.val (.lst (ns.map T.int))),none,none,none,none,none] μ=.nx [some (.val (.lst (ns.map T.int))),some (.val (.str (tx d t))),none,none,none,none] μ:=by
  unfold qU
  generalize b7 8=F at e2
  generalize bB=G at e1
  generalize ns.map T.int=us at *
  simp?! only[e1,e2]
 generalize tx d t=s at *
 obtain⟨y2,y3,g1⟩:=ER ns l0 l1 μ
 obtain⟨y4,g2⟩:=ES (some (.val (.lst (ns.map T.int)))) (some (.val (.str s))) y2 y3 μ
 obtain⟨c,hc⟩:=xQ ns 9 (by lia) (by lia)
 have hc:=hc μ
 have c0:=Int.emod_nonneg c (show(650:Int)≠0 by lia)
 have c1:=Int.emod_lt_of_pos c (show(0:Int)<650 by lia)
 obtain⟨n,hn⟩:∃n:Nat,(n:Int)=6+c%650:=⟨(6+c%650).toNat,by lia⟩
 have g3:qX [some (.val (.lst (ns.map T.int))),some (.val (.str s)),y2,y3,y4,none] μ=.nx [some (.val (.lst (ns.map T.int))),some (.val (.str s)),y2,y3,y4,some (.val (.int n))] μ:=by
  rw[hn]
  unfold qX
  generalize aO=G at hc
  generalize ns.map T.int=us at *
  simp?! only[hc]
 obtain⟨z,ez,lz,rz⟩:=EL (n:=n) (by lia) (by lia) (some (.val (.lst (ns.map T.int)))) (some (.val (.str s))) y2 y3 y4 μ
 have hr:=oK μ (jB lz μ)
 rw[rz] at hr
 have hr:bc [.val (.str z)] μ=R.ok (SV.val (.tup [.non,.bl true])) μ:=hr
 have g4:qY [some (.val (.lst (ns.map T.int))),some (.val (.str s)),y2,y3,y4,some (.val (.int n))] μ=.nx [some (.val (.lst (ns.map T.int))),some (.val (.str s)),y2,y3,y4,some (.val (.int n))] μ:=by
  have en:m9 true (.bl true)=some (.bl false):=rfl
  rw[Hw]
  generalize bc=F at hr
  generalize xT=D at ez
  generalize ns.map T.int=us at *
  simp?! only[ez,hr,en]
 have hq:=j4 (s:=s) (by lia) μ
 have g5:qZ [some (.val (.lst (ns.map T.int))),some (.val (.str s)),y2,y3,y4,some (.val (.int n))] μ=.rt (.val (.bl true)) μ:=by
  unfold qZ
  generalize aC=F at hq
  generalize ns.map T.int=us at *
  simp?! only[hq]
 refine⟨μ,?_⟩
 show(Dg (starts 6 [.val (.lst (ns.map T.int))]) μ).oQ μ.length=_
 have:starts 6 [.val (.lst (ns.map T.int))]=[some (.val (.lst (ns.map T.int))),none,none,none,none,none]:=rfl
 rw[this,J0,zi,g0,RS.aM,zj,g1,RS.aM,zk,g2,RS.aM,zl,g3,RS.aM,zm,g4,RS.aM,zo,g5,eQ,gE,List.take_length]
end Fw.k12
open PySem PySem.W PyProof.Rows
def zN:String:="te3251933404224779340 tw14674992097223498198 tw2710664174748969521 tw2181144548481568180 tw17206389874089433056 tw12846648704747277399 tw12607392158293613090 tw3882495688391540839 tw9821205139263415272 tw1733740978142141850 tw5336775701760555254 tw6165287145066018396 tw13948694143055736578 tw16234445130716222819 tw9135144351632208562 tw10227582037017769786 tw16286070312135134145 tw736294136421048127 tw5216739705613364256 tw11223878039455049319 tw946670383555875171 tw842062152816316702 tw4691453767892936378 tw1141011673330914004 tw2729402053322454332 tw6339823613273424993 tw6699982034427474835 tw6869791304599843174 tw13642105223221281474 tw912588593766250223 tw3491784729128795627 tw13290401262292146299 tw3863034917142275395 tw1788055594502155230 tw10706756890727191297 tw10913176276024651266 tw17230918722934389383 tw17048819605092706253 tw1666181514319721536 tw12467648576245577723 tw10079627501733100488 tw70067819050880055 tw16437472861470864942 tw5930849116919022168 tw14671994241331209694 tw11141608596432204001 tw326037496834830351 tw10516012940313928462 tw12987502100143571783 tw1145970931553374894 tw16375114362576222507 tw15290213207546344169 tw16654769936736247911 tw18059057261348011539 tw7916999856036856752 tw18144578586298343880 tw5529884576570278605 tw2109957342644280505 tw13646982919262909508 tw11770004624359430311 tw5952574254455286124 tw13889800129282645543 tw8749096279771167746 tw1269273367547118378 tw9003738166386915368 tw10529515994154899947 tw44705890746921111 tw11252427316285111456 tw13773604150108866581 tw7649926699464007883 tw16777673813107181277 tw4917378477340194658 tw15602826181497620603 tw6951722901136068594 tw9359120640558713849 tw749684897748959196 tw13499022173384160120 tw9401104534200628467 tw5998962024992895949 tw6968728672969968968 tw2146071314979365988 tw14191088074434148714 tw3934867408624307017 tw15370746576186259682 tw5335161736859730111 tw8634701423043877165 tw8686230713952659920 tw4427257835380061927 tw17747404710414160540 tw16080604575094392518 tw1533995662272111888 tw10619550575872872359 tw9072052918703514561 tw6549197933286441271 tw5329469637603539081 tw12358582354374713993 tw521952427548803874 tw15338582256376298171 tw7514113305563730599 tw1517466520707403842 tw14693330807488921957 tw5134505819356149205 tw4569784599803437373 tw8420204616191546513 tw15613090227668758140 tw6473340683574948624 tw4716745610712393265 tw16025023379633767159 tw4604314526608325249 tw3989398001510803952 tw7219592952204057793 tw5196037920075706097 tw8099120085410333527 tw4293967157759203104 tw16508943463820933261 tw8088352558196298765 tw2211842743713391587 tw13163031561122281020 tw8520995589322566755 tw11402793290892736449 tw18377357880770489064 tw11504219070534945206 tw5032153559786997223 tw10125687666988644176 tw15856024676106870882 tw9690744430827394017 tw6151383601175712259 tw13512094407667557388 tw16859917202440060642 tw2319751726712117233 tw12888116423293787604 tw10597070897759449238 tw14284132276230271670 tw11332000005430443457 tw13956037770833556656 tw11028542239852013441 tw1973167409909120205 tw15385348302133081640 tw9175865030820966497 tw9969159992123654093 tw3324003092218054707 tw9977661509542294579 tw17323262947656479939 tw7241067176961795444 tw10795571446794052570 tw15245185786470760568 tw9902369543071493129 tw11069707118410481264 tw9477281653051074647 tw16704174685102529052 tw1584864932377281020 tw11523440661790207168 tw7918905522669679593 tw438907619157903764 tw3030750772725738567 tw15284933554561007055 tw16802636006117905493 tw12175456997042953820 tw10139488376676627753 tw791519800572237942 tw3906744997383666919 tw15338727965194812106 tw16334869374631418236 tw507170653550523033 tw11815209788609731852 tw8504332740112191401 tw8081670101341016609 tw7959713924708514788 tw3287873201113378062 tw16583384338485206719 tw12071947316579922432 tw10849125885568339834 tw10571755752568288954 tw8065542598309926879 tw7456789422197690002 tw11554422145939256601 tw4170792821990675813 tw3674567458842110540 tw2315342032836144598 tw9623329324555349046 tw1680730639084436972 tw870317228818933274 tw6441675030431947694 tw4128112872943407295 tw3009209574051683066 tw2628880339764487160 tw15275561696679588379 tw14533116147734985010 tw14076802008519012113 tw11860685377141999832 tw10700614282433876306 tw8548271099457185752 tw697090457437595038 tw4531494667680984469 tw1832180348730631425 tw14254210097013898233 tw12858253997149707671 tw12633711345716213964 tw10754316802974021899 tw10460508095803091942"
local macro_rules
|`(#synth 0)=>do return Lean.mkNullNode (←(zN.splitOn " ").toArray.mapM λx=>do let i:=Lean.mkIdent (.mkSimple x);`(command|theorem $i : True:=trivial))
namespace PySem.W.Fast
#synth 0
end PySem.W.Fast
set_option maxRecDepth 100000 in
set_option maxHeartbeats 0 in
theorem PySem.Challenge.cw_fewopen_k12_texts_that_are_no_rules_holds : PySem.Challenge.rw_fewopen_k12_texts_that_are_no_rules.Holds := by
 w_on;o_law;k_head;(case hw=>w_witness2)
 k_fill
 refine Fw.k12.walk (l:=PySem.Challenge.rw_fewopen_k12_texts_that_are_no_rules) rfl rfl Fw.k12.holds (λw h Y=>PySem.W.kIn_of Y) ?F
 case F =>
  intro w mg fa h KX G hmg
  refine' Fw.k12.all_mk KX G hmg ?A0 ?A1 ?A2 ?A3 ?A4 ?A5 ?A6 ?A7 ?A8 ?A9 ?A10 ?A11 ?A12 ?A13 ?A14 ?A15 ?A16 ?A17 ?A18 ?A19 ?A20 ?z0 ?z1 ?z2 ?z3 ?z4 ?z5 ?z6 ?z7 ?z8 ?y0 ?y1 ?yy1 ?y2 ?y3 ?y4 ?y5 ?x0 ?x1 ?x2 ?x3 ?x4 ?x5 ?x6 ?x7 ?x8 ?x9 ?x10 ?x11 ?x12 ?x13 ?x14 ?x15 ?x16 ?x17 ?x18 ?x19 ?x20 ?x21 ?x22 ?x23 ?x24 ?x25 ?x26 ?x27 ?x28 ?x29 ?x30 ?x31 ?x32 ?x33 ?x34 ?x35 ?x36 ?x37 ?x38 ?x39 ?x40
  (case A0=>refine' Fw.cW ?a ?l ?c ?k;(case a=>k_is);(case l=>k_is);(case c=>k_is);(case k=>k_is))
  (case A1=>refine' Fw.cW ?a ?l ?c ?k;(case a=>k_is);(case l=>k_is);(case c=>k_is);(case k=>k_is))
  (case A2=>refine' Fw.cW ?a ?l ?c ?k;(case a=>k_is);(case l=>k_is);(case c=>k_is);(case k=>k_is))
  (case A3=>refine' Fw.cW ?a ?l ?c ?k;(case a=>k_is);(case l=>k_is);(case c=>k_is);(case k=>k_is))
  (case A4=>refine' Fw.cW ?a ?l ?c ?k;(case a=>k_is);(case l=>k_is);(case c=>k_is);(case k=>k_is))
  (case A5=>refine' Fw.cW ?a ?l ?c ?k;(case a=>k_is);(case l=>k_is);(case c=>k_is);(case k=>k_is))
  (case A6=>refine' Fw.cW ?a ?l ?c ?k;(case a=>k_is);(case l=>k_is);(case c=>k_is);(case k=>k_is))
  (case A7=>refine' Fw.cW ?a ?l ?c ?k;(case a=>k_is);(case l=>k_is);(case c=>k_is);(case k=>k_is))
  (case A8=>refine' Fw.cW ?a ?l ?c ?k;(case a=>k_is);(case l=>k_is);(case c=>k_is);(case k=>k_is))
  (case A9=>refine' Fw.cW ?a ?l ?c ?k;(case a=>k_is);(case l=>k_is);(case c=>k_is);(case k=>k_is))
  (case A10=>refine' Fw.cW ?a ?l ?c ?k;(case a=>k_is);(case l=>k_is);(case c=>k_is);(case k=>k_is))
  (case A11=>refine' Fw.cW ?a ?l ?c ?k;(case a=>k_is);(case l=>k_is);(case c=>k_is);(case k=>k_is))
  (case A12=>refine' Fw.cW ?a ?l ?c ?k;(case a=>k_is);(case l=>k_is);(case c=>k_is);(case k=>k_is))
  (case A13=>refine' Fw.cW ?a ?l ?c ?k;(case a=>k_is);(case l=>k_is);(case c=>k_is);(case k=>k_is))
  (case A14=>refine' Fw.cW ?a ?l ?c ?k;(case a=>k_is);(case l=>k_is);(case c=>k_is);(case k=>k_is))
  (case A15=>refine' Fw.cW ?a ?l ?c ?k;(case a=>k_is);(case l=>k_is);(case c=>k_is);(case k=>k_is))
  (case A16=>refine' Fw.cW ?a ?l ?c ?k;(case a=>k_is);(case l=>k_is);(case c=>k_is);(case k=>k_is))
  (case A17=>refine' Fw.cW ?a ?l ?c ?k;(case a=>k_is);(case l=>k_is);(case c=>k_is);(case k=>k_is))
  (case A18=>refine' Fw.cW ?a ?l ?c ?k;(case a=>k_is);(case l=>k_is);(case c=>k_is);(case k=>k_is))
  (case A19=>refine' Fw.cW ?a ?l ?c ?k;(case a=>k_is);(case l=>k_is);(case c=>k_is);(case k=>k_is))
  (case A20=>refine' Fw.cW ?a ?l ?c ?k;(case a=>k_is);(case l=>k_is);(case c=>k_is);(case k=>k_is))
  (case z0=>k_is)
  (case z1=>k_is)
  (case z2=>k_is)
  (case z3=>k_is)
  (case z4=>k_is)
  (case z5=>k_is)
  (case z6=>k_is)
  (case z7=>k_is)
  (case z8=>k_is)
  (case y0=>k_is)
  (case y1=>k_is)
  (case yy1=>k_is)
  (case y2=>k_is)
  (case y3=>k_is)
  (case y4=>k_is)
  (case y5=>k_is)
  (case x0=>k_is)
  (case x1=>k_is)
  (case x2=>k_is)
  (case x3=>k_exc)
  (case x4=>k_is)
  (case x5=>k_is)
  (case x6=>k_is)
  (case x7=>k_is)
  (case x8=>k_is)
  (case x9=>k_is)
  (case x10=>k_is)
  (case x11=>k_is)
  (case x12=>k_is)
  (case x13=>k_is)
  (case x14=>k_is)
  (case x15=>k_is)
  (case x16=>k_is)
  (case x17=>k_is)
  (case x18=>k_is)
  (case x19=>k_is)
  (case x20=>k_is)
  (case x21=>k_is)
  (case x22=>k_is)
  (case x23=>k_is)
  (case x24=>k_is)
  (case x25=>k_is)
  (case x26=>k_is)
  (case x27=>k_is)
  (case x28=>k_is)
  (case x29=>k_is)
  (case x30=>k_is)
  (case x31=>k_is)
  (case x32=>k_is)
  (case x33=>k_is)
  (case x34=>k_is)
  (case x35=>k_is)
  (case x36=>k_is)
  (case x37=>k_is)
  (case x38=>k_is)
  (case x39=>kit_is)
  (case x40=>kit_is)
